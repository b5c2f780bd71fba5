/- The statements about what a store tells of itself: an edit that moves. -/
import Derived.Test.YtdcbgfhkfmohiaaGreatDoorKb29
namespace Go.Proofs.YtdcbgfhkfmohiaaGreatDoor
open Go.RowKit
attribute [local go_sem] Oper.semAt_some

set_option maxHeartbeats 8000000 in
set_option maxRecDepth 50000 in
theorem kPlay_move (B : Bank) (r : RSt) (n : Int) (o : KStep) (w : World) (hO : Okay w B) (ha : Agree B r) (hm : B.made < 4611686018427387904) (ho : o.ok) (hk : kN o.K 6 = 4) :
    Calls Tryz.prog 18 #[ptrV B.sb, .int .i64 n, o.val] w fun e w' => StepOut w.heap.size w B (playR r n o) e w' := by
  obtain ⟨o0, oF, oA, oB⟩ := o
  obtain ⟨i0, iF, iA, iB⟩ := ho
  simp only at i0 iF iA iB hk
  have HE : Hid (playR r n ⟨o0, oF, oA, oB⟩ = moveR r n (pathK (kN oA 84)) (pathK (kN oB 84))) := by rw [Hid, playR, if_neg (by simp only; omega), if_neg (by simp only; omega), if_pos hk]
  rw [HE.out]
  clear HE
  unfold KStep.val
  obtain ⟨w1, hw1⟩ : ∃ w1, w1 = w.alloc (.cells #[.int .i64 o0, .int .i64 oF, .int .i64 oA, .int .i64 oB] 35) := ⟨_, rfl⟩
  have hb1 : Below w.heap.size w w1 := by rw [hw1]; exact (Below.refl _ _).alloc (Nat.le_refl _) _
  have hn1 : w1.heap[w.heap.size]? = some (.cells #[.int .i64 o0, .int .i64 oF, .int .i64 oA, .int .i64 oB] 35 (0, 0)) := by rw [hw1]; exact heap_alloc_new _ _
  have hs1 : w.heap.size < w1.heap.size := (Array.getElem?_eq_some_iff.1 hn1).1
  have c0 : w1.cell? ⟨w.heap.size, 0, none⟩ = some (.int .i64 o0) := (blk_cell hn1 0).trans rfl
  have c2 : w1.cell? ⟨w.heap.size, 2, none⟩ = some (.int .i64 oA) := (blk_cell hn1 2).trans rfl
  have c3 : w1.cell? ⟨w.heap.size, 3, none⟩ = some (.int .i64 oB) := (blk_cell hn1 3).trans rfl
  have CK := kPick_any o0 6 w1 i0 (by omega) (by omega)
  obtain ⟨PF, hPF⟩ : ∃ PF : Int → Str, ∀ c, PF c = pathK (kN c 84) := ⟨_, fun _ => rfl⟩
  have CP : Hid (∀ c W, kIn c → Calls Tryz.prog 23 #[.int .i64 c] W fun e w' => KText W (PF c) e w') := fun c W h => by rw [hPF]; exact kPath_any c W h
  have hlp := pathK_short (kN oA 84)
  have hld := pathK_short (kN oB 84)
  rw [← hPF] at hlp hld ⊢
  rw [← hPF oB]
  clear hPF
  have CE : Hid (∀ W, Below w1.heap.size w1 W → Calls Tryz.prog 39 #[ptrV B.sb, .int .i64 n, SV (PF oA), SV (PF oB)] W fun e w' => PlayMid w w1 B (moveR r n (PF oA) (PF oB)) e w') := fun W hW =>
    (storeMove_any B r n (PF oA) (PF oB) W ((hO.below hb1).below hW) ha hm (by unfold maxLen; omega) (by unfold maxLen; omega)).mono fun e w' h => play_mid hO hb1 hs1 hW h
  have K1 : Hid (∀ W : World, W.heap[w.heap.size]? = w1.heap[w.heap.size]? → W.cell? ⟨w.heap.size, 2, none⟩ = some (.int .i64 oA) ∧ W.cell? ⟨w.heap.size, 3, none⟩ = some (.int .i64 oB)) := fun W hW => ⟨(blk_cell (hW.trans hn1) 2).trans rfl, (blk_cell (hW.trans hn1) 3).trans rfl⟩
  have HW1 : Hid _ := hw1
  have KB : Hid (∀ W, Below w1.heap.size w1 W → W.heap[w.heap.size]? = w1.heap[w.heap.size]?) := fun W hW => hW.block _ hs1
  clear hw1 hb1 hn1 hO ha hm
  generalize kN o0 6 = kk at *
  generalize moveR r n (PF oA) (PF oB) = oo at *
  subst hk
  all_goals
    go_enter Tryz.func18, Tryz.ntmps18
    go_wp2_with fail
    rw [← HW1.out]
    refine CK.mono ?_
    rintro e w1 ⟨rfl, rfl⟩
    clear HW1
    go_upto_region 11 with fail
    go_region_held3 (fun W : World => W.cell? ⟨w.heap.size, 2, none⟩ = some (.int .i64 oA) ∧ W.cell? ⟨w.heap.size, 3, none⟩ = some (.int .i64 oB))
      (first | exact K1.out _ hm4 | exact K1.out _ (KB.out _ hb3) | exact K1.out _ (KB.out _ hb2) | exact K1.out _ (KB.out _ (Below.refl _ _).drew))
      (first
        | ((go_at_call 39; refine (CE.out _ hb3).mono ?_; rintro e w4 ⟨hst, hm4⟩; have HST := Hid.mk' hst; obtain ⟨B', rfl, -⟩ := hst))
        | ((go_at_call 23; refine (CP.out _ _ ?_).mono ?_; (first | exact iA | exact iB); rintro e w3 ⟨rfl, hb3'⟩; have hb3 : Below w1.heap.size w1 w3 := hb2.trans (hb3'.mono hb2.size)))
        | ((go_at_call 23; refine (CP.out _ _ ?_).mono ?_; (first | exact iA | exact iB); rintro e w2 ⟨rfl, hb2'⟩; have hb2 : Below w1.heap.size w1 w2 := ((Below.refl _ _).drew).trans hb2')))
    all_goals
      go_wp2
      go_ret2
      exact HST.out

set_option maxHeartbeats 8000000 in
set_option maxRecDepth 50000 in
theorem kPlay_near (B : Bank) (r : RSt) (n : Int) (o : KStep) (w : World) (hO : Okay w B) (ha : Agree B r) (hm : B.made < 4611686018427387904) (ho : o.ok) (hk : kN o.K 6 = 5) :
    Calls Tryz.prog 18 #[ptrV B.sb, .int .i64 n, o.val] w fun e w' => StepOut w.heap.size w B (playR r n o) e w' := by
  obtain ⟨o0, oF, oA, oB⟩ := o
  obtain ⟨i0, iF, iA, iB⟩ := ho
  simp only at i0 iF iA iB hk
  have HE : Hid (playR r n ⟨o0, oF, oA, oB⟩ = moveR r n (pathK (kN (oA.tmod 20) 84)) (pathK (kN (oB.tmod 20) 84))) := by rw [Hid, playR, if_neg (by simp only; omega), if_neg (by simp only; omega), if_neg (by simp only; omega)]
  rw [HE.out]
  clear HE
  unfold KStep.val
  obtain ⟨w1, hw1⟩ : ∃ w1, w1 = w.alloc (.cells #[.int .i64 o0, .int .i64 oF, .int .i64 oA, .int .i64 oB] 35) := ⟨_, rfl⟩
  have hb1 : Below w.heap.size w w1 := by rw [hw1]; exact (Below.refl _ _).alloc (Nat.le_refl _) _
  have hn1 : w1.heap[w.heap.size]? = some (.cells #[.int .i64 o0, .int .i64 oF, .int .i64 oA, .int .i64 oB] 35 (0, 0)) := by rw [hw1]; exact heap_alloc_new _ _
  have hs1 : w.heap.size < w1.heap.size := (Array.getElem?_eq_some_iff.1 hn1).1
  have c0 : w1.cell? ⟨w.heap.size, 0, none⟩ = some (.int .i64 o0) := (blk_cell hn1 0).trans rfl
  have c2 : w1.cell? ⟨w.heap.size, 2, none⟩ = some (.int .i64 oA) := (blk_cell hn1 2).trans rfl
  have c3 : w1.cell? ⟨w.heap.size, 3, none⟩ = some (.int .i64 oB) := (blk_cell hn1 3).trans rfl
  have CK := kPick_any o0 6 w1 i0 (by omega) (by omega)
  obtain ⟨PF, hPF⟩ : ∃ PF : Int → Str, ∀ c, PF c = pathK (kN c 84) := ⟨_, fun _ => rfl⟩
  have CP : Hid (∀ c W, kIn c → Calls Tryz.prog 23 #[.int .i64 c] W fun e w' => KText W (PF c) e w') := fun c W h => by rw [hPF]; exact kPath_any c W h
  have hlp := pathK_short (kN (oA.tmod 20) 84)
  have hld := pathK_short (kN (oB.tmod 20) 84)
  rw [← hPF] at hlp hld ⊢
  rw [← hPF (oB.tmod 20)]
  clear hPF
  have CE : Hid (∀ W, Below w1.heap.size w1 W → Calls Tryz.prog 39 #[ptrV B.sb, .int .i64 n, SV (PF (oA.tmod 20)), SV (PF (oB.tmod 20))] W fun e w' => PlayMid w w1 B (moveR r n (PF (oA.tmod 20)) (PF (oB.tmod 20))) e w') := fun W hW =>
    (storeMove_any B r n (PF (oA.tmod 20)) (PF (oB.tmod 20)) W ((hO.below hb1).below hW) ha hm (by unfold maxLen; omega) (by unfold maxLen; omega)).mono fun e w' h => play_mid hO hb1 hs1 hW h
  have K1 : Hid (∀ W : World, W.heap[w.heap.size]? = w1.heap[w.heap.size]? → W.cell? ⟨w.heap.size, 2, none⟩ = some (.int .i64 oA) ∧ W.cell? ⟨w.heap.size, 3, none⟩ = some (.int .i64 oB)) := fun W hW => ⟨(blk_cell (hW.trans hn1) 2).trans rfl, (blk_cell (hW.trans hn1) 3).trans rfl⟩
  have HW1 : Hid _ := hw1
  have KB : Hid (∀ W, Below w1.heap.size w1 W → W.heap[w.heap.size]? = w1.heap[w.heap.size]?) := fun W hW => hW.block _ hs1
  have iA20 := kIn_rem iA
  have iB20 := kIn_rem iB
  clear hw1 hb1 hn1 hO ha hm
  generalize kN o0 6 = kk at *
  generalize moveR r n (PF (oA.tmod 20)) (PF (oB.tmod 20)) = oo at *
  subst hk
  all_goals
    go_enter Tryz.func18, Tryz.ntmps18
    go_wp2_with fail
    rw [← HW1.out]
    refine CK.mono ?_
    rintro e w1 ⟨rfl, rfl⟩
    clear HW1
    go_upto_region 13 with fail
    go_region_held3 (fun W : World => W.cell? ⟨w.heap.size, 2, none⟩ = some (.int .i64 oA) ∧ W.cell? ⟨w.heap.size, 3, none⟩ = some (.int .i64 oB))
      (first | exact K1.out _ hm4 | exact K1.out _ (KB.out _ hb3) | exact K1.out _ (KB.out _ hb2) | exact K1.out _ (KB.out _ (Below.refl _ _).drew))
      (first
        | ((go_at_call 39; refine (CE.out _ hb3).mono ?_; rintro e w4 ⟨hst, hm4⟩; have HST := Hid.mk' hst; obtain ⟨B', rfl, -⟩ := hst))
        | ((go_at_call 23; refine (CP.out _ _ ?_).mono ?_; (first | exact iA20 | exact iB20); rintro e w3 ⟨rfl, hb3'⟩; have hb3 : Below w1.heap.size w1 w3 := hb2.trans (hb3'.mono hb2.size)))
        | ((go_at_call 23; refine (CP.out _ _ ?_).mono ?_; (first | exact iA20 | exact iB20); rintro e w2 ⟨rfl, hb2'⟩; have hb2 : Below w1.heap.size w1 w2 := ((Below.refl _ _).drew).trans hb2')))
    all_goals
      go_wp2
      go_ret2
      exact HST.out


theorem kPlay_any (B : Bank) (r : RSt) (n : Int) (o : KStep) (w : World) (hO : Okay w B) (ha : Agree B r) (hm : B.made < 4611686018427387904) (ho : o.ok) :
    Calls Tryz.prog 18 #[ptrV B.sb, .int .i64 n, o.val] w fun e w' => StepOut w.heap.size w B (playR r n o) e w' := by
  have hk := kN_lt o.K (n := 6) (by omega)
  by_cases h3 : kN o.K 6 < 3
  · exact kPlay_put B r n o w hO ha hm ho h3
  · rcases (show kN o.K 6 = 3 ∨ kN o.K 6 = 4 ∨ kN o.K 6 = 5 by omega) with h | h | h
    · exact kPlay_delete B r n o w hO ha hm ho h
    · exact kPlay_move B r n o w hO ha hm ho h
    · exact kPlay_near B r n o w hO ha hm ho h

end Go.Proofs.YtdcbgfhkfmohiaaGreatDoor

/- The statements about what a store tells of itself: the two stores of the examples. -/
namespace Go.Proofs.YtdcbgfhkfmohiaaGreatDoor
open Go.RowKit

/-- A store that the statement has made, with no rules: w0 is the world ahead of it. -/
structure KAt (w0 wr : World) (T : Bank) (r : RSt) : Prop where
  ok : Okay wr T
  ag : Agree T r
  base : Below w0.heap.size w0 wr
  hi : ∀ k, T.own k → w0.heap.size ≤ k
  rmap : wr.heap[T.rr]? = some (.map #[] 0)
  rout : ¬ T.own T.rr
  rhi : w0.heap.size ≤ T.rr
theorem KAt.lt {w0 wr : World} {T : Bank} {r : RSt} (h : KAt w0 wr T r) {k : Nat} (hk : T.own k) : k < wr.heap.size := h.ok.at'.own_lt hk
theorem KAt.frame {w0 wr w' : World} {T : Bank} {r : RSt} (h : KAt w0 wr T r) (hb : Below w0.heap.size w0 w') (hk : ∀ k, T.own k ∨ k = T.rr → w'.heap[k]? = wr.heap[k]?) : KAt w0 w' T r :=
  ⟨h.ok.frame fun k h1 => hk k (.inl h1), h.ag, hb, h.hi, (hk _ (.inr rfl)).trans h.rmap, h.rout, h.rhi⟩
theorem KAt.below {w0 wr w' : World} {T : Bank} {r : RSt} (h : KAt w0 wr T r) (hb : Below wr.heap.size wr w') : KAt w0 w' T r :=
  h.frame (h.base.trans (hb.mono h.base.size)) fun k hk => hb.block k (hk.elim h.lt fun e => e ▸ (Array.getElem?_eq_some_iff.1 h.rmap).1)
theorem ext_base {w0 wr w' : World} {T T' : Bank} (hb : Below w0.heap.size w0 wr) (hi : ∀ k, T.own k → w0.heap.size ≤ k) (h : Ext wr.heap.size wr T w' T') : Below w0.heap.size w0 w' :=
  ⟨h.os.trans hb.os, h.tape.trans hb.tape, h.output.trans hb.output, Nat.le_trans hb.size h.size, fun k hk => (h.blk k (Nat.lt_of_lt_of_le hk hb.size) fun ho => by have := hi k ho; omega).trans (hb.block k hk)⟩
theorem KAt.edit {w0 wr w' : World} {T T' : Bank} {r r' : RSt} (h : KAt w0 wr T r) (h1 : Okay w' T') (h2 : Agree T' r') (h3 : Ext wr.heap.size wr T w' T') : KAt w0 w' T' r' := by
  have e5 : T'.rr = T.rr := h3.four.2.2.2.2
  have hlt : T.rr < wr.heap.size := (Array.getElem?_eq_some_iff.1 h.rmap).1
  refine ⟨h1, h2, ext_base h.base h.hi h3, fun k hk => ?_, ?_, ?_, ?_⟩
  · rcases h3.own k hk with h4 | h4
    · exact h.hi k h4
    · exact Nat.le_trans h.base.size h4
  · rw [e5]; exact (h3.blk _ hlt h.rout).trans h.rmap
  · rw [e5]; intro ho
    rcases h3.own _ ho with h4 | h4
    · exact h.rout h4
    · omega
  · rw [e5]; exact h.rhi
/-- A block that is not the store's stays so, and stands. -/
theorem ext_free {N : Nat} {wr w' : World} {T T' : Bank} (h : Ext N wr T w' T') {k : Nat} (hk : k < N) (hn : ¬ T.own k) : ¬ T'.own k ∧ w'.heap[k]? = wr.heap[k]? :=
  ⟨fun ho => (h.own k ho).elim hn fun h2 => by omega, h.blk k hk hn⟩

/-- The examples' store beside the other. -/
structure Aw (w0 wr : World) (S : Bank) (r : RSt) (Rs : List RuleP) (T : Bank) : Prop where
  ok : Okay wr S
  ag : Agree S r
  rules : RulesAt wr S.rr Rs
  apart : ∀ k, Foot S.rr Rs k → ¬ S.own k
  two : KAt w0 wr T (newR 200)
  hi : ∀ k, S.own k ∨ Foot S.rr Rs k → w0.heap.size ≤ k
  dis : ∀ k, S.own k ∨ Foot S.rr Rs k → ¬ (T.own k ∨ k = T.rr)
def AwE (w0 wr : World) (sb : Nat) (r : RSt) (V : List RView) (tb : Nat) : Prop := ∃ S Rs T, S.sb = sb ∧ T.sb = tb ∧ Rs.map (·.view) = V ∧ Aw w0 wr S r Rs T

theorem AwE.below {w0 wr w' : World} {sb tb : Nat} {r : RSt} {V : List RView} (h : AwE w0 wr sb r V tb) (hb : Below wr.heap.size wr w') : AwE w0 w' sb r V tb := by
  obtain ⟨S, Rs, T, h1, h2, h3, h4⟩ := h
  exact ⟨S, Rs, T, h1, h2, h3, h4.ok.below hb, h4.ag, h4.rules.below hb, h4.apart, h4.two.below hb, h4.hi, h4.dis⟩
theorem AwE.max {w0 wr : World} {sb tb : Nat} {r : RSt} {V : List RView} (h : AwE w0 wr sb r V tb) (hm : MaxOk w0) : MaxOk wr := by
  obtain ⟨S, Rs, T, _, _, _, h4⟩ := h
  exact hm.below h4.two.base hm.lt
theorem AwE.tells {w0 wr : World} {sb tb : Nat} {r : RSt} {V : List RView} {f : FuncId} {args : Array Value} {o : Str × Nat} (h : AwE w0 wr sb r V tb)
    (hC : ∀ S, Okay wr S → Agree S r → S.sb = sb → Calls Tryz.prog f args wr fun e w' => DiffOut wr o e w') : Calls Tryz.prog f args wr fun e w' => e = .returned (.tuple #[SV o.1, .int .i64 o.2]) ∧ AwE w0 w' sb r V tb := by
  have h' := h
  obtain ⟨S, Rs, T, h1, h2, h3, h4⟩ := h'
  exact (hC S h4.ok h4.ag h1).mono fun e w' hd => ⟨hd.1, h.below hd.2⟩
theorem AwE.cells {w0 wr : World} {sb tb : Nat} {r : RSt} {V : List RView} (h : AwE w0 wr sb r V tb) : Calls Tryz.prog 16 #[ptrV sb] wr fun e w' => e = .returned (.int .i64 (cellsOf r)) ∧ AwE w0 w' sb r V tb := by
  have h' := h
  obtain ⟨S, Rs, T, h1, h2, h3, h4⟩ := h'
  rw [← h1]
  refine (bankCells_any S wr h4.ok.at' (by have := h4.ok.room; omega)).mono ?_
  rintro e w' ⟨rfl, n, rfl⟩
  rw [Agree.cells h4.ok h4.ag]
  rw [h1]
  exact ⟨rfl, h.below (below_like rfl rfl rfl rfl)⟩
theorem AwE.edit {w0 wr : World} {sb tb : Nat} {r : RSt} {V : List RView} {f : FuncId} {args : Array Value} {o : RSt × Nat × Nat} (h : AwE w0 wr sb r V tb)
    (hC : ∀ S, Okay wr S → Agree S r → S.sb = sb → Calls Tryz.prog f args wr fun e w' => StepOut wr.heap.size wr S o e w') : Calls Tryz.prog f args wr fun e w' => e = .returned (.tuple #[.int .i64 o.2.1, .int .i64 o.2.2]) ∧ AwE w0 w' sb o.1 V tb := by
  obtain ⟨S, Rs, T, h1, h2, h3, h4⟩ := h
  refine (hC S h4.ok h4.ag h1).mono ?_
  rintro e w' ⟨S', rfl, k1, k2, k3⟩
  have e5 : S'.rr = S.rr := k3.four.2.2.2.2
  have hst : ∀ k, Foot S.rr Rs k → ¬ S'.own k ∧ w'.heap[k]? = wr.heap[k]? := fun k hk => ext_free k3 (h4.rules.lt hk) (h4.apart k hk)
  have hbase := ext_base h4.two.base (fun k hk => h4.hi k (.inl hk)) k3
  have htl : ∀ k, T.own k ∨ k = T.rr → k < wr.heap.size := fun k hk => hk.elim h4.two.lt fun e => e ▸ (Array.getElem?_eq_some_iff.1 h4.two.rmap).1
  refine ⟨rfl, S', Rs, T, k3.four.1.trans h1, h2, h3, k1, k2, ?_, ?_, ?_, ?_, ?_⟩
  · rw [e5]; exact h4.rules.keep k3.size fun k hk => (hst k hk).2
  · rw [e5]; exact fun k hk => (hst k hk).1
  · exact h4.two.frame hbase fun k hk => k3.blk k (htl k hk) fun ho => h4.dis k (.inl ho) hk
  · rw [e5]; rintro k (hk | hk)
    · rcases k3.own k hk with h6 | h6
      · exact h4.hi k (.inl h6)
      · exact Nat.le_trans h4.two.base.size h6
    · exact h4.hi k (.inr hk)
  · rw [e5]; rintro k (hk | hk) ht
    · rcases k3.own k hk with h6 | h6
      · exact h4.dis k (.inl h6) ht
      · have := htl k ht; omega
    · exact h4.dis k (.inr hk) ht
theorem Aw.turn {w0 wr w' : World} {S T : Bank} {r : RSt} {Rs : List RuleP} {V : List RView} (h4 : Aw w0 wr S r Rs T) (h : RulesOut wr.heap.size wr S.rr Rs V w') : AwE w0 w' S.sb r V T.sb := by
  obtain ⟨Rs', k1, k2, k3, k4⟩ := h
  have htl : ∀ k, T.own k ∨ k = T.rr → k < wr.heap.size := fun k hk => hk.elim h4.two.lt fun e => e ▸ (Array.getElem?_eq_some_iff.1 h4.two.rmap).1
  have hsl : ∀ k, S.own k → k < wr.heap.size := fun k hk => h4.ok.at'.own_lt hk
  have hbase : Below w0.heap.size w0 w' := ⟨k3.os.trans h4.two.base.os, k3.tape.trans h4.two.base.tape, k3.output.trans h4.two.base.output, Nat.le_trans h4.two.base.size k3.size, fun k hk => (k3.blk k (Nat.lt_of_lt_of_le hk h4.two.base.size) fun ho => by have := h4.hi k (.inr (.inl ho)); omega).trans (h4.two.base.block k hk)⟩
  refine ⟨S, Rs', T, rfl, rfl, k2, h4.ok.frame fun k hk => k3.blk k (hsl k hk) fun ho => h4.apart k (.inl ho) hk, h4.ag, k1, ?_, ?_, ?_, ?_⟩
  · intro k hk ho
    rcases k4 k hk with h5 | h5
    · exact h4.apart k h5 ho
    · have := hsl k ho; omega
  · exact h4.two.frame hbase fun k hk => k3.blk k (htl k hk) fun ho => h4.dis k (.inr (.inl ho)) hk
  · rintro k (hk | hk)
    · exact h4.hi k (.inl hk)
    · rcases k4 k hk with h5 | h5
      · exact h4.hi k (.inr h5)
      · exact Nat.le_trans h4.two.base.size h5
  · rintro k (hk | hk) ht
    · exact h4.dis k (.inl hk) ht
    · rcases k4 k hk with h5 | h5
      · exact h4.dis k (.inr h5) ht
      · have := htl k ht; omega
theorem AwE.two {w0 wr : World} {sb tb : Nat} {r : RSt} {V : List RView} (h : AwE w0 wr sb r V tb) : ∃ T, T.sb = tb ∧ KAt w0 wr T (newR 200) := by
  obtain ⟨S, Rs, T, h1, h2, h3, h4⟩ := h
  exact ⟨T, h2, h4.two⟩
theorem rules_nil {w : World} {rr : Nat} (h : w.heap[rr]? = some (.map #[] 0)) : RulesAt w rr [] :=
  ⟨⟨#[], 0, h, rfl, MapKept.stamped_empty 0⟩, by simp, by simp, by simp, by simp, by simp, by simp, by simp⟩

end Go.Proofs.YtdcbgfhkfmohiaaGreatDoor

/- The statements about what a store tells of itself: the examples' calls. -/
namespace Go.Proofs.YtdcbgfhkfmohiaaGreatDoor
open Go.RowKit

theorem aw_new {w0 w1 w2 : World} {S T : Bank} (hO : Okay w1 S) (ha : Agree S (newR 20)) (hb : Below w0.heap.size w0 w1) (hi : ∀ k, S.own k → w0.heap.size ≤ k) (hm : w1.heap[S.rr]? = some (.map #[] 0)) (hn : ¬ S.own S.rr) (hr : w0.heap.size ≤ S.rr)
    (hO2 : Okay w2 T) (ha2 : Agree T (newR 200)) (hb2 : Below w1.heap.size w1 w2) (hi2 : ∀ k, T.own k → w1.heap.size ≤ k) (hm2 : w2.heap[T.rr]? = some (.map #[] 0)) (hn2 : ¬ T.own T.rr) (hr2 : w1.heap.size ≤ T.rr) : AwE w0 w2 S.sb (newR 20) [] T.sb := by
  have hf : ∀ k, Foot S.rr [] k → k = S.rr := by
    rintro k ((h | ⟨R, hR, _⟩) | ⟨R, hR, _⟩)
    · exact h
    · simp at hR
    · simp at hR
  have hlt : ∀ k, S.own k ∨ Foot S.rr [] k → k < w1.heap.size := fun k hk => hk.elim (fun h => hO.at'.own_lt h) fun h => (hf k h) ▸ (Array.getElem?_eq_some_iff.1 hm).1
  refine ⟨S, [], T, rfl, rfl, rfl, hO.below hb2, ha, rules_nil ((hb2.block _ (Array.getElem?_eq_some_iff.1 hm).1).trans hm), fun k hk => hf k hk ▸ hn, ⟨hO2, ha2, hb.trans (hb2.mono hb.size), fun k hk => Nat.le_trans hb.size (hi2 k hk), hm2, hn2, Nat.le_trans hb.size hr2⟩, ?_, ?_⟩
  · rintro k (hk | hk)
    · exact hi k hk
    · rw [hf k hk]; exact hr
  · intro k hk ht
    have h1 := hlt k hk
    rcases ht with ht | rfl
    · have := hi2 k ht; omega
    · omega

theorem aw_put1 {w0 wr : World} {sb tb : Nat} {V : List RView} (h : AwE w0 wr sb (newR 20) V tb) : Calls Tryz.prog 38 #[ptrV sb, .int .i64 0, .string ⟨#[115, 114, 99, 47, 97, 46, 99]⟩, .string ⟨#[120]⟩] wr fun e w' => e = .returned (.tuple #[.int .i64 1, .int .i64 0]) ∧ AwE w0 w' sb exR1 V tb := by
  have := h.edit (o := putR (newR 20) 0 srcA tX) (f := 38) (args := #[ptrV sb, .int .i64 0, SV srcA, SV tX]) fun S h1 h2 h3 => h3 ▸ storePut_any S _ 0 srcA tX wr h1 h2 (by rw [h2.made]; decide) (by decide) (by decide)
  rw [ex_put1] at this
  exact this
theorem aw_put2 {w0 wr : World} {sb tb : Nat} {V : List RView} (h : AwE w0 wr sb exR1 V tb) : Calls Tryz.prog 38 #[ptrV sb, .int .i64 1, .string ⟨#[108, 105, 98, 47, 97, 46, 99]⟩, .string ⟨#[120]⟩] wr fun e w' => e = .returned (.tuple #[.int .i64 2, .int .i64 0]) ∧ AwE w0 w' sb exR2 V tb := by
  have := h.edit (o := putR exR1 1 libA tX) (f := 38) (args := #[ptrV sb, .int .i64 1, SV libA, SV tX]) fun S h1 h2 h3 => h3 ▸ storePut_any S _ 1 libA tX wr h1 h2 (by rw [h2.made]; decide) (by decide) (by decide)
  rw [ex_put2] at this
  exact this
theorem aw_move {w0 wr : World} {sb tb : Nat} {V : List RView} (h : AwE w0 wr sb exR2 V tb) : Calls Tryz.prog 39 #[ptrV sb, .int .i64 2, .string ⟨#[115, 114, 99]⟩, .string ⟨#[108, 105, 98, 47, 115, 114, 99]⟩] wr fun e w' => e = .returned (.tuple #[.int .i64 3, .int .i64 0]) ∧ AwE w0 w' sb exR3 V tb := by
  have := h.edit (o := moveR exR2 2 tSrc tLsr) (f := 39) (args := #[ptrV sb, .int .i64 2, SV tSrc, SV tLsr]) fun S h1 h2 h3 => h3 ▸ storeMove_any S _ 2 tSrc tLsr wr h1 h2 (by rw [h2.made]; decide) (by decide) (by decide)
  rw [ex_move] at this
  exact this
theorem aw_cells1 {w0 wr : World} {sb tb : Nat} {V : List RView} (h : AwE w0 wr sb exR1 V tb) : Calls Tryz.prog 16 #[ptrV sb] wr fun e w' => e = .returned (.int .i64 4) ∧ AwE w0 w' sb exR1 V tb := by
  have := h.cells
  rw [ex_cells1] at this
  exact this
theorem aw_cells2 {w0 wr : World} {sb tb : Nat} {V : List RView} (h : AwE w0 wr sb exR2 V tb) : Calls Tryz.prog 16 #[ptrV sb] wr fun e w' => e = .returned (.int .i64 5) ∧ AwE w0 w' sb exR2 V tb := by
  have := h.cells
  rw [ex_cells2] at this
  exact this
theorem aw_diff {w0 wr : World} {sb tb : Nat} {V : List RView} (h : AwE w0 wr sb exR2 V tb) : Calls Tryz.prog 27 #[ptrV sb, .int .i64 1, .int .i64 2] wr fun e w' => e = .returned (.tuple #[.string ⟨#[43, 108, 105, 98, 47, 97, 46, 99, 10]⟩, .int .i64 0]) ∧ AwE w0 w' sb exR2 V tb := by
  have := h.tells (o := diffR exR2 1 2) (f := 27) (args := #[ptrV sb, .int .i64 1, .int .i64 2]) fun S h1 h2 h3 => h3 ▸ storeDiff_any S _ 1 2 wr h1 h2
  rw [ex_diff] at this
  exact this
theorem aw_glob {w0 wr : World} {sb tb : Nat} {V : List RView} (h : AwE w0 wr sb exR3 V tb) (hm : MaxOk w0) : Calls Tryz.prog 32 #[ptrV sb, .int .i64 2, .string ⟨#[103, 108, 111, 98, 32, 42, 42, 47, 42, 46, 99]⟩] wr fun e w' => e = .returned (.tuple #[.string ⟨#[108, 105, 98, 47, 97, 46, 99, 10, 115, 114, 99, 47, 97, 46, 99, 10]⟩, .int .i64 0]) ∧ AwE w0 w' sb exR3 V tb := by
  have := h.tells (o := askR exR3 2 qGlob) (f := 32) (args := #[ptrV sb, .int .i64 2, SV qGlob]) fun S h1 h2 h3 => h3 ▸ storeAsk_any S _ 2 qGlob wr h1 h2 (h.max hm)
  rw [ex_glob] at this
  exact this
theorem aw_first {w0 wr : World} {sb tb : Nat} {V : List RView} (h : AwE w0 wr sb exR3 V tb) (hm : MaxOk w0) : Calls Tryz.prog 32 #[ptrV sb, .int .i64 2, .string ⟨#[102, 105, 114, 115, 116, 32, 97, 46, 99, 32, 105, 110, 99, 32, 115, 114, 99, 32, 108, 105, 98]⟩] wr fun e w' => e = .returned (.tuple #[.string ⟨#[115, 114, 99, 47, 97, 46, 99]⟩, .int .i64 0]) ∧ AwE w0 w' sb exR3 V tb := by
  have := h.tells (o := askR exR3 2 qFirst) (f := 32) (args := #[ptrV sb, .int .i64 2, SV qFirst]) fun S h1 h2 h3 => h3 ▸ storeAsk_any S _ 2 qFirst wr h1 h2 (h.max hm)
  rw [ex_first] at this
  exact this
theorem aw_rule {w0 wr : World} {sb tb : Nat} (h : AwE w0 wr sb exR3 [] tb) (hm : MaxOk w0) :
    Calls Tryz.prog 37 #[ptrV sb, .string ⟨#[97, 108, 108]⟩, .slice (some ⟨wr.heap.size, 0, none⟩) 1 1] (wr.alloc (.cells #[.string ⟨#[103, 108, 111, 98, 32, 115, 114, 99, 47, 42, 46, 99]⟩] 9)) fun e w' => e = .returned (.int .i64 0) ∧ AwE w0 w' sb exR3 [⟨tAll, [exQ], []⟩] tb := by
  obtain ⟨w1, hw1⟩ : ∃ w1, w1 = wr.alloc (.cells #[.string ⟨#[103, 108, 111, 98, 32, 115, 114, 99, 47, 42, 46, 99]⟩] 9) := ⟨_, rfl⟩
  have hb : Below wr.heap.size wr w1 := by rw [hw1]; exact (Below.refl _ _).alloc (Nat.le_refl _) _
  have hn1 : w1.heap[wr.heap.size]? = some (.cells #[.string ⟨#[103, 108, 111, 98, 32, 115, 114, 99, 47, 42, 46, 99]⟩] 9 (0, 0)) := by rw [hw1]; exact heap_alloc_new _ _
  rw [← hw1]
  have h1 := h.below hb
  have hmx := h1.max hm
  obtain ⟨S, Rs, T, rfl, rfl, h3, h4⟩ := h1
  have hN : NamesAt w1 (.slice (some ⟨wr.heap.size, 0, none⟩) 1 1) [qSrc] := ⟨_, _, rfl, by simp, by unfold maxLen; omega, fun k hk => ⟨wr.heap.size, 0, rfl, (Array.getElem?_eq_some_iff.1 hn1).1, by
    obtain rfl : k = 0 := by simpa using hk
    exact (blk_cell hn1 0).trans rfl⟩⟩
  refine (storeRule_any S.sb S.rr Rs tAll [qSrc] _ w1 ((blk_cell h4.ok.at'.store 5).trans rfl) h4.rules hN hmx (by decide)).mono ?_
  rintro e w' ⟨rfl, h6⟩
  rw [h3, ex_rule]
  rw [h3, ex_view] at h6
  exact ⟨rfl, h4.turn h6⟩
theorem aw_plan {w0 wr : World} {sb tb : Nat} {a : List Str} {n : Int} {l : List Fl} {x : Str} (h : AwE w0 wr sb exR3 [⟨tAll, [exQ], a⟩] tb) (hf : findL exR3.all n = some l) (hx : answerL l (splitL 32 qSrc) = x) :
    Calls Tryz.prog 35 #[ptrV sb, .int .i64 n] wr fun e w' => e = .returned (.tuple #[SV (if [x] = a then [] else tAll ++ [10]), .int .i64 0]) ∧ AwE w0 w' sb exR3 [⟨tAll, [exQ], [x]⟩] tb := by
  obtain ⟨S, Rs, T, rfl, rfl, h3, h4⟩ := h
  refine (storePlan_any S exR3 n Rs wr h4.ok h4.ag h4.rules h4.apart).mono ?_
  have hne : Rs ≠ [] := by intro e; rw [e] at h3; simp at h3
  rintro e w' (⟨h5, _⟩ | ⟨es, h5, h6, h7, h8⟩)
  · rw [hf] at h5; simp at h5
  · rw [hf] at h5
    simp only [Option.some.injEq] at h5
    have hans : answerQ es exQ = x := by rw [ex_ans h6 h7, ← h5, hx]
    rcases h8 with ⟨h9, _⟩ | ⟨_, rfl, h9⟩
    · exact absurd h9 hne
    · rw [h3, ex_line, hans]
      rw [h3, ex_built, hans] at h9
      exact ⟨rfl, h4.turn h9⟩
theorem aw_plan1 {w0 wr : World} {sb tb : Nat} (h : AwE w0 wr sb exR3 [⟨tAll, [exQ], []⟩] tb) : Calls Tryz.prog 35 #[ptrV sb, .int .i64 1] wr fun e w' => e = .returned (.tuple #[.string ⟨#[97, 108, 108, 10]⟩, .int .i64 0]) ∧ AwE w0 w' sb exR3 [⟨tAll, [exQ], [srcA ++ [10]]⟩] tb := by
  have := aw_plan h ex_find1 ex_ans1
  rw [if_neg (by simp)] at this
  exact this
theorem aw_plan2 {w0 wr : World} {sb tb : Nat} (h : AwE w0 wr sb exR3 [⟨tAll, [exQ], [srcA ++ [10]]⟩] tb) : Calls Tryz.prog 35 #[ptrV sb, .int .i64 2] wr fun e w' => e = .returned (.tuple #[.string ⟨#[]⟩, .int .i64 0]) ∧ AwE w0 w' sb exR3 [⟨tAll, [exQ], [srcA ++ [10]]⟩] tb := by
  have := aw_plan h ex_find2 ex_ans2
  rw [if_pos rfl] at this
  exact this
theorem aw_plan3 {w0 wr : World} {sb tb : Nat} (h : AwE w0 wr sb exR3 [⟨tAll, [exQ], [srcA ++ [10]]⟩] tb) : Calls Tryz.prog 35 #[ptrV sb, .int .i64 3] wr fun e w' => e = .returned (.tuple #[.string ⟨#[97, 108, 108, 10]⟩, .int .i64 0]) ∧ AwE w0 w' sb exR3 [⟨tAll, [exQ], [[]]⟩] tb := by
  have := aw_plan h ex_find3 ex_ans3
  rw [if_neg (by decide)] at this
  exact this

/-- What awake hands on. -/
def KMade (w0 : World) (e : Ending) (w' : World) : Prop := ∃ T, e = .returned (ptrV T.sb) ∧ KAt w0 w' T kR0
theorem find_wf {w : World} {B : Bank} {r : RSt} {n : Int} {l : List Fl} (hO : Okay w B) (ha : Agree B r) (hf : findL r.all n = some l) : ∃ es, l = toF (filesE es) ∧ WFE es ∧ heightE es ≤ 5 ∧ (filesE es).length ≤ 20 := by
  rcases find_agree ha n with ⟨h, _⟩ | ⟨k, es, hk, _, h⟩
  · rw [h] at hf; simp at hf
  · rw [h] at hf
    simp only [Option.some.injEq] at hf
    have := hO.wf _ hk
    exact ⟨es, hf.symm, this.1, this.2.2, this.2.1⟩
theorem kDump_any (B : Bank) (r : RSt) (n : Int) (w : World) (hO : Okay w B) (ha : Agree B r) (hmx : MaxOk w) : Calls Tryz.prog 19 #[ptrV B.sb, .int .i64 n] w fun e w' => KDump w (findL r.all n) e w' := by
  cases hf : findL r.all n with
  | none => exact kDump_none B r n w hO ha hmx hf
  | some l =>
    obtain ⟨es, rfl, h1, h2, h3⟩ := find_wf hO ha hf
    exact kDump_some B r n es w hO ha hmx hf h1 h2 h3
theorem KAt.max {w0 wr : World} {T : Bank} {r : RSt} (h : KAt w0 wr T r) (hm : MaxOk w0) : MaxOk wr := hm.below h.base hm.lt
theorem files_one {base : Nat} {w : World} {v : Value} {p d : Str} (h : FilesK base w v [(p, d)]) : ∃ g cap, v = .slice (some ⟨g, 0, none⟩) 1 cap ∧ g < w.heap.size ∧ base ≤ g ∧ 1 ≤ cap ∧ cap ≤ maxLen ∧ w.cell? ⟨g, 0, none⟩ = some (SV p) ∧ w.cell? ⟨g, 1, none⟩ = some (SV d) := by
  rcases row_cells h with ⟨_, h1⟩ | ⟨g, cap, e, h1, h2, h3, h4, h6⟩
  · simp at h1
  · exact ⟨g, cap, e, h1, h2, h3, h4, h6 0 _ rfl, h6 1 _ rfl⟩

end Go.Proofs.YtdcbgfhkfmohiaaGreatDoor

/- The statements about what a store tells of itself: awake. -/
namespace Go.Proofs.YtdcbgfhkfmohiaaGreatDoor
open Go.RowKit
attribute [local go_sem] Oper.semAt_some

set_option maxHeartbeats 16000000 in
set_option maxRecDepth 50000 in
theorem kAwake_any (c : Int) (w : World) (hc : kIn c) (hmx : MaxOk w) : Calls Tryz.prog 14 #[.int .i64 c] w fun e w' => KMade w e w' := by
  have C1 := storeNew_any 20 w (by omega) (by omega)
  have HMX : Hid _ := hmx
  have CP : Hid (∀ W, Calls Tryz.prog 23 #[.int .i64 c] W fun e w' => KText W (pathK (kN c 84)) e w') := fun W => kPath_any c W hc
  have CD : Hid (∀ W, Calls Tryz.prog 25 #[.int .i64 c] W fun e w' => KText W (datK (kN c 5)) e w') := fun W => kData_any c W hc
  have HPUT : Hid (putR (newR 200) 0 (pathK (kN c 84)) (datK (kN c 5)) = (kR1 (pathK (kN c 84)) (datK (kN c 5)), 1, 0)) := k_put (kN_lt c (by omega)) (kN_lt c (by omega))
  have hlp := pathK_short (kN c 84)
  have hld := datK_short (kN c 5)
  generalize pathK (kN c 84) = pp at *
  generalize datK (kN c 5) = dd at *
  clear hmx
  go_enter Tryz.func14, Tryz.ntmps14
  go_wp2_with fail
  refine C1.mono ?_
  rintro e w1 ⟨S, rfl, k1, k2, k3, k4, k5, k6, k7⟩
  have C2 := storeNew_any 200 w1 (by omega) (by omega)
  have HK : Hid _ := And.intro k1 (And.intro k2 (And.intro k3 (And.intro k4 (And.intro k5 (And.intro k6 k7)))))
  clear k1 k2 k3 k4 k5 k6 k7 C1
  go_wp2_with fail
  refine C2.mono ?_
  rintro e w2 ⟨T, rfl, t1, t2, t3, t4, t5, t6, t7⟩
  have HA : Hid (AwE w w2 S.sb (newR 20) [] T.sb) := aw_new HK.out.1 HK.out.2.1 HK.out.2.2.1 HK.out.2.2.2.1 HK.out.2.2.2.2.1 HK.out.2.2.2.2.2.1 HK.out.2.2.2.2.2.2 t1 t2 t3 t4 t5 t6 t7
  clear t1 t2 t3 t4 t5 t6 t7 HK C2
  generalize S.sb = sb at *
  generalize T.sb = tb at *
  go_wp2_with fail
  refine (aw_put1 HA.out).mono ?_
  rintro e w3 ⟨rfl, h3⟩
  have HA3 : Hid (AwE w w3 sb exR1 [] tb) := h3
  clear h3 HA
  go_wp2_with fail
  refine (aw_cells1 HA3.out).mono ?_
  rintro e w4 ⟨rfl, h4⟩
  have HA4 : Hid (AwE w w4 sb exR1 [] tb) := h4
  clear h4 HA3
  go_wp2_with fail
  refine (aw_put2 HA4.out).mono ?_
  rintro e w5 ⟨rfl, h5⟩
  have HA5 : Hid (AwE w w5 sb exR2 [] tb) := h5
  clear h5 HA4
  go_wp2_with fail
  refine (aw_cells2 HA5.out).mono ?_
  rintro e w6 ⟨rfl, h6⟩
  have HA6 : Hid (AwE w w6 sb exR2 [] tb) := h6
  clear h6 HA5
  go_wp2_with fail
  refine (aw_diff HA6.out).mono ?_
  rintro e w7 ⟨rfl, h7⟩
  have HA7 : Hid (AwE w w7 sb exR2 [] tb) := h7
  clear h7 HA6
  go_wp2_with fail
  refine (aw_move HA7.out).mono ?_
  rintro e w8 ⟨rfl, h8⟩
  have HA8 : Hid (AwE w w8 sb exR3 [] tb) := h8
  clear h8 HA7
  go_wp2_with fail
  refine (aw_glob HA8.out HMX.out).mono ?_
  rintro e w9 ⟨rfl, h9⟩
  have HA9 : Hid (AwE w w9 sb exR3 [] tb) := h9
  clear h9 HA8
  go_wp2_with fail
  refine (aw_first HA9.out HMX.out).mono ?_
  rintro e w10 ⟨rfl, h10⟩
  have HA10 : Hid (AwE w w10 sb exR3 [] tb) := h10
  clear h10 HA9
  go_wp2_with fail
  refine (aw_rule HA10.out HMX.out).mono ?_
  rintro e w11 ⟨rfl, h11⟩
  have HA11 : Hid (AwE w w11 sb exR3 [⟨tAll, [exQ], []⟩] tb) := h11
  clear h11 HA10
  go_wp2_with fail
  refine (aw_plan1 HA11.out).mono ?_
  rintro e w12 ⟨rfl, h12⟩
  have HA12 : Hid (AwE w w12 sb exR3 [⟨tAll, [exQ], [srcA ++ [10]]⟩] tb) := h12
  clear h12 HA11
  go_wp2_with fail
  refine (aw_plan2 HA12.out).mono ?_
  rintro e w13 ⟨rfl, h13⟩
  have HA13 : Hid (AwE w w13 sb exR3 [⟨tAll, [exQ], [srcA ++ [10]]⟩] tb) := h13
  clear h13 HA12
  go_wp2_with fail
  refine (aw_plan3 HA13.out).mono ?_
  rintro e w14 ⟨rfl, h14⟩
  obtain ⟨T, rfl, hT⟩ := h14.two
  have HT : Hid (KAt w w14 T (newR 200)) := hT
  clear h14 hT HA13
  go_wp2_with fail
  refine (CP.out _).mono ?_
  rintro e w15 ⟨rfl, hb15⟩
  have HT15 : Hid (KAt w w15 T (newR 200)) := HT.out.below hb15
  clear hb15 HT
  go_wp2_with fail
  refine (CD.out _).mono ?_
  rintro e w16 ⟨rfl, hb16⟩
  have HT16 : Hid (KAt w w16 T (newR 200)) := HT15.out.below hb16
  have CE := storePut_any T (newR 200) 0 pp dd w16 HT16.out.ok HT16.out.ag (by rw [HT16.out.ag.made]; decide) (by unfold maxLen; omega) (by unfold maxLen; omega)
  rw [HPUT.out] at CE
  clear hb16 HT15 HPUT
  go_wp2_with fail
  refine CE.mono ?_
  rintro e w17 ⟨T', rfl, g1, g2, g3⟩
  have HT17 : Hid (KAt w w17 T' (kR1 pp dd)) := HT16.out.edit g1 g2 g3
  have esb : T.sb = T'.sb := g3.four.1.symm
  rw [esb]
  have CU : Hid (Calls Tryz.prog 19 #[ptrV T'.sb, .int .i64 1] w17 fun e w' => KDump w17 (some [(pp, dd)]) e w') := kDump_any T' (kR1 pp dd) 1 w17 HT17.out.ok HT17.out.ag (HT17.out.max HMX.out)
  clear g1 g2 g3 HT16 CE esb T
  go_wp2_with fail
  refine Calls.mono (show Calls _ _ _ _ _ from CU.out) ?_
  rintro e w18 ⟨hb18, v, rfl, hv⟩
  obtain ⟨g, cap, rfl, hg1, hg2, hg3, hg4, hg5, hg6⟩ := files_one hv
  have HT18 : Hid (KAt w w18 T' (kR1 pp dd)) := HT17.out.below hb18
  have CR : Hid (Calls Tryz.prog 20 #[ptrV T'.sb, .int .i64 1] w18 fun e w' => StepOut1 w18.heap.size w18 T' (kR0, 0) e w') := storeRelease_any T' (kR1 pp dd) 1 w18 HT18.out.ok HT18.out.ag
  have HGN : Hid (¬ T'.own g) := fun ho => by have := HT17.out.lt ho; omega
  unfold maxLen at hg4
  clear hv hb18 CU HT17
  go_wp2_with fail
  refine Calls.mono (show Calls _ _ _ _ _ from CR.out) ?_
  rintro e w19 ⟨T2, rfl, g1, g2, g3⟩
  have HT19 : Hid (KAt w w19 T2 kR0) := HT18.out.edit g1 g2 g3
  have esb : T'.sb = T2.sb := g3.four.1.symm
  rw [esb]
  have hgb := g3.blk g hg1 HGN.out
  have cg0 : w19.cell? ⟨g, 0, none⟩ = some (SV pp) := by rw [World.cell?, hgb]; exact hg5
  have cg1 : w19.cell? ⟨g, 1, none⟩ = some (SV dd) := by rw [World.cell?, hgb]; exact hg6
  have hg19 : g < w19.heap.size := Nat.lt_of_lt_of_le hg1 g3.size
  clear g1 g2 g3 HT18 CR esb hgb hg5 hg6 HGN hg1 T'
  have K1 : Hid (∀ W, Below w19.heap.size w19 W → W.cell? ⟨g, 0, none⟩ = some (SV pp) ∧ W.cell? ⟨g, 1, none⟩ = some (SV dd)) := fun W hW => ⟨(hW.cell (p := ⟨g, 0, none⟩) hg19).trans cg0, (hW.cell (p := ⟨g, 1, none⟩) hg19).trans cg1⟩
  have R : Hid (∀ W, Below w19.heap.size w19 W → KMade w (.returned (ptrV T2.sb)) W) := fun W hW => ⟨T2, rfl, HT19.out.below hW⟩
  clear HT19
  go_upto_region 24 with fail
  go_region_held3 (fun W : World => W.cell? ⟨g, 0, none⟩ = some (SV pp) ∧ W.cell? ⟨g, 1, none⟩ = some (SV dd))
    (first | exact K1.out _ hb21 | exact K1.out _ hb20 | exact K1.out _ (Below.refl _ _).drew)
    (first
      | ((go_at_call 23; refine (CP.out _).mono ?_; rintro e w20 ⟨rfl, hb20'⟩; have hb20 : Below w19.heap.size w19 w20 := ((Below.refl _ _).drew).trans hb20'))
      | ((go_at_call 25; refine (CD.out _).mono ?_; rintro e w20 ⟨rfl, hb20'⟩; have hb20 : Below w19.heap.size w19 w20 := ((Below.refl _ _).drew).trans hb20'))
      | ((go_at_call 23; refine (CP.out _).mono ?_; rintro e w21 ⟨rfl, hb21'⟩; have hb21 : Below w19.heap.size w19 w21 := hb20.trans (hb21'.mono hb20.size)))
      | ((go_at_call 25; refine (CD.out _).mono ?_; rintro e w21 ⟨rfl, hb21'⟩; have hb21 : Below w19.heap.size w19 w21 := hb20.trans (hb21'.mono hb20.size))))
  all_goals
    go_wp2
    go_ret
    exact R.out _ hb21

end Go.Proofs.YtdcbgfhkfmohiaaGreatDoor

/- The statements about what a store tells of itself: scripts; first; played. -/
namespace Go.Proofs.YtdcbgfhkfmohiaaGreatDoor
open Go.RowKit
attribute [local go_sem] Oper.semAt_some

/-- The value reads as these steps. -/
def StepsAt (W : World) (v : Value) (len : Nat) (O : Nat → KStep) : Prop :=
  ∃ ao cap, v = .slice ao len cap ∧ ∀ i, i < len → ∃ g o, ao = some ⟨g, o, none⟩ ∧ g < W.heap.size ∧ W.cell? ⟨g, o + i * 4, none⟩ = some (.int .i64 (O i).K) ∧ W.cell? ⟨g, o + i * 4 + 1, none⟩ = some (.int .i64 (O i).From) ∧ W.cell? ⟨g, o + i * 4 + 2, none⟩ = some (.int .i64 (O i).A) ∧ W.cell? ⟨g, o + i * 4 + 3, none⟩ = some (.int .i64 (O i).B)
def firstK (len : Nat) (O : Nat → KStep) : Int := if len = 0 then 0 else (O 0).A

set_option maxHeartbeats 2000000 in
theorem kFirst_any (v : Value) (len : Nat) (O : Nat → KStep) (w : World) (h : StepsAt w v len O) (hlen : len ≤ 2000000000000000) : Calls Tryz.prog 15 #[v] w fun e w' => e = .returned (.int .i64 (firstK len O)) ∧ w' = w := by
  obtain ⟨ao, cap, rfl, hc⟩ := h
  by_cases h0 : len = 0
  · subst h0
    clear hc
    go_enter Tryz.func15, Tryz.ntmps15
    go_wp2
    go_ret
    exact ⟨rfl, rfl⟩
  · obtain ⟨g, o, rfl, hg, _, _, c2, _⟩ := hc 0 (by omega)
    have R : Hid (firstK len O = (O 0).A) := by rw [Hid, firstK, if_neg h0]
    have hi : ¬ (len : Int) = 0 := by omega
    have hi2 : (0 : Int) < (len : Int) := by omega
    have c2' : w.cell? ⟨g, o + 2, none⟩ = some (.int .i64 (O 0).A) := by simpa using c2
    rw [R.out]
    generalize (O 0).A = x at *
    clear hc R c2
    go_enter Tryz.func15, Tryz.ntmps15
    go_wp2
    go_ret
    exact ⟨rfl, rfl⟩

/-- What edits may have made of the store, and the numbers of its snapshots. -/
inductive Played : RSt → List Nat → Prop
  | start : Played kR0 [0]
  | more {r : RSt} {ns : List Nat} {n : Nat} {o : KStep} {r' : RSt} {m : Nat} (h : Played r ns) (hl : ns.length < 11) (hn : n ∈ ns) (ho : playR r (n : Int) o = (r', m, 0)) : Played r' (ns ++ [m])
theorem Played.facts {r : RSt} {ns : List Nat} (h : Played r ns) : r.all.map (·.1) = ns ∧ r.limit = 200 ∧ ns ≠ [] ∧ ns.length ≤ 11 ∧ (∀ n ∈ ns, n < r.made) ∧ ns.Pairwise (· < ·) ∧ r.made ≤ ns.length + 1 := by
  induction h with
  | start => refine ⟨rfl, rfl, by simp, by simp, ?_, by simp, by decide⟩; intro n hn; simp at hn; subst hn; decide
  | @more r ns n o r' m h hl hn ho ih =>
    obtain ⟨h1, h2, h3, h4, h5, h6, h7⟩ := ih
    have hg := play_grew r n o
    rw [ho] at hg
    cases hg with
    | no _ he => exact absurd rfl he
    | yes l _ _ _ =>
      refine ⟨by simp [h1], h2, by simp, by simp; omega, ?_, ?_, ?_⟩
      · intro x hx
        show x < r.made + 1
        rw [List.mem_append, List.mem_singleton] at hx
        rcases hx with hx | rfl
        · have := h5 x hx; omega
        · omega
      · rw [List.pairwise_append]
        exact ⟨h6, by simp, fun a ha b hb => by rw [List.mem_singleton] at hb; subst hb; exact h5 a ha⟩
      · show r.made + 1 ≤ (ns ++ [r.made]).length + 1
        simp only [List.length_append, List.length_singleton]; omega
theorem Played.find {r : RSt} {ns : List Nat} (h : Played r ns) {n : Nat} (hn : n ∈ ns) : ∃ l, findL r.all (n : Int) = some l := by
  have h1 := h.facts.1
  rw [← h1, List.mem_map] at hn
  obtain ⟨x, hx, rfl⟩ := hn
  unfold findL
  cases hf : r.all.find? (fun y => (y.1 : Int) == (x.1 : Int)) with
  | none => rw [List.find?_eq_none] at hf; exact absurd (hf x hx) (by simp)
  | some y => exact ⟨y.2, rfl⟩

def intsV (ns : List Nat) : List Value := ns.map fun (n : Nat) => .int .i64 (n : Int)
/-- What played hands on. -/
structure PlayedAt (w0 w : World) (T : Bank) (r : RSt) (u : Value) (ns : List Nat) : Prop where
  st : KAt w0 w T r
  row : w.ownsRow w0.heap.size 3 1 u ns.length (intsV ns)
  out : ∀ k, u.ownBlock = some k → ¬ T.own k ∧ k ≠ T.rr
  pl : Played r ns
def PlayedOut (w0 : World) (e : Ending) (w' : World) : Prop := ∃ T r u ns, e = .returned (.tuple #[ptrV T.sb, u]) ∧ PlayedAt w0 w' T r u ns
theorem ints_cells {base : Nat} {w : World} {v : Value} {ns : List Nat} (h : w.ownsRow base 3 1 v ns.length (intsV ns)) (hne : ns ≠ []) : ∃ g cap, v = .slice (some ⟨g, 0, none⟩) ns.length cap ∧ g < w.heap.size ∧ base ≤ g ∧ ns.length ≤ cap ∧ cap ≤ maxLen ∧ ∀ k (hk : k < ns.length), w.cell? ⟨g, k, none⟩ = some (.int .i64 (ns[k] : Int)) := by
  rcases row_cells h with ⟨_, h1⟩ | ⟨g, cap, e, h1, h2, h3, h4, h6⟩
  · exact absurd (List.length_eq_zero_iff.1 h1) hne
  · exact ⟨g, cap, e, h1, h2, h3, h4, fun k hk => h6 k _ (by rw [intsV, List.getElem?_map, List.getElem?_eq_getElem hk]; rfl)⟩
/-- An edit: the list of numbers stands. -/
theorem PlayedAt.edit {w0 w w' : World} {T T' : Bank} {r r' : RSt} {u : Value} {ns : List Nat} (h : PlayedAt w0 w T r u ns) (h1 : Okay w' T') (h2 : Agree T' r') (h3 : Ext w.heap.size w T w' T') :
    KAt w0 w' T' r' ∧ w'.ownsRow w0.heap.size 3 1 u ns.length (intsV ns) ∧ ∀ k, u.ownBlock = some k → ¬ T'.own k ∧ k ≠ T'.rr := by
  refine ⟨h.st.edit h1 h2 h3, rowKept h.row fun j hj => (ext_free h3 (h.row.lt j hj).2 (h.out j hj).1).2, fun k hk => ?_⟩
  rw [show T'.rr = T.rr from h3.four.2.2.2.2]
  exact ⟨(ext_free h3 (h.row.lt k hk).2 (h.out k hk).1).1, (h.out k hk).2⟩
theorem PlayedAt.below {w0 w w' : World} {T : Bank} {r : RSt} {u : Value} {ns : List Nat} (h : PlayedAt w0 w T r u ns) (hb : Below w.heap.size w w') : PlayedAt w0 w' T r u ns :=
  ⟨h.st.below hb, rowKept h.row fun j hj => hb.block j (h.row.lt j hj).2, h.out, h.pl⟩

end Go.Proofs.YtdcbgfhkfmohiaaGreatDoor
