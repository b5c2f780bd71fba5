/- drop: the walk. -/
import Derived.Test.YtdcbgfhkfmohiaaGreatDoorKb10
namespace Go.Proofs.YtdcbgfhkfmohiaaGreatDoor
open Go.RowKit

def DropAt (n : Nat) : Prop := ∀ (t : Tree) (B : Bank) (x : Tree → Nat) (w : World), SizeOf.sizeOf t ≤ n → BankAt w B → Calm B x → 0 < x t →
  Calls Tryz.prog 45 #[ptrV B.sb, valT B.ad t] w fun e w' => DropOut w B (fun s => x s - one t s) e w'

theorem letGo_method (ad : Tree → Nat) (t : Tree) : ∃ kk, valT ad t = .iface kk (ptrV (ad t)) ∧ ∀ W : World, (method 401 kk (.pointer (some ⟨ad t, 0, none⟩)) "canopy/canopy.letGo").run Tryz.prog W = .ok (212, .pointer (some ⟨ad t, 0, none⟩)) W := by
  cases t with
  | file d => exact ⟨_, rfl, Tryz.letGoFile _⟩
  | dir es => exact ⟨_, rfl, Tryz.letGoDir _⟩

set_option maxHeartbeats 1000000 in
theorem drop_more (t : Tree) (B : Bank) (x : Tree → Nat) (w : World) (hB : BankAt w B) (hc : Calm B x) (ht : 0 < x t) (h1 : 1 < B.us t) :
    Calls Tryz.prog 45 #[ptrV B.sb, valT B.ad t] w fun e w' => DropOut w B (fun s => x s - one t s) e w' := by
  have hh := hc.supp t ht
  obtain ⟨hc0, hf0⟩ := users_cell hB hh
  obtain ⟨kk, hv, hmeth⟩ := letGo_method B.ad t
  have hsm := hc.small t hh
  have HF : Hid _ := drop_less hB hc ht h1 (users_set1 hB hh _)
  rw [hv]
  clear hB hc ht hh hv
  generalize B.ad t = bb at *
  generalize B.us t = uu at *
  have hpos : (0 : Int) < ((uu - 1 : Nat) : Int) := by omega
  go_enter Tryz.func45, Tryz.ntmps45
  go_wp2_with (go_at_call 212; refine (letGo_any bb uu _ hc0 hf0 hsm (by omega)).mono ?_; rintro e w4 ⟨rfl, rfl⟩; generalize ((uu - 1 : Nat) : Int) = vv at *)
  refine bodyPost_ret (results_none rfl _ _ _) rfl ?_
  exact ⟨rfl, HF.out⟩

set_option maxHeartbeats 2000000 in
theorem drop_lastFile (d : Str) (B : Bank) (x : Tree → Nat) (w : World) (hB : BankAt w B) (hc : Calm B x) (ht : 0 < x (.file d)) (h1 : B.us (.file d) = 1) :
    Calls Tryz.prog 45 #[ptrV B.sb, fileV (B.ad (.file d))] w fun e w' => DropOut w B (fun s => x s - one (.file d) s) e w' := by
  have hh := hc.supp _ ht
  obtain ⟨hc0, hf0⟩ := users_cell hB hh
  have hmeth := Tryz.letGoFile
  have a1 := Tryz.assertFile
  have hs1 := users_set1 hB hh (B.us (.file d) - 1)
  have hB1 := hB.setUsers hh _ hs1
  rw [h1] at hc0 hs1 hB1
  obtain ⟨m, clock, hm, hhl, hF⟩ := hB1.find_file d
  obtain ⟨w3, j, hj, hdel, hs3⟩ := run_delete_at Tryz.underlying84 (w := (w.setCell ⟨B.ad (.file d), 0, none⟩ (.int .i64 (1 - 1 : Nat))).drew) hm (hF _) hh
  have HF : Hid _ := drop_file hB hc ht h1 (by rw [h1]; exact hs1) hj hhl (w1 := w.setCell ⟨B.ad (.file d), 0, none⟩ (.int .i64 (1 - 1 : Nat))) (w1' := (w.setCell ⟨B.ad (.file d), 0, none⟩ (.int .i64 (1 - 1 : Nat))).drew) (below_like rfl rfl rfl rfl) hs3
  have hf1 : w.cell? ⟨B.ad (.file d), 1, none⟩ = some (SV d) := (blk_cell (hB.files d hh) 1).trans rfl
  have hsc : w.cell? ⟨B.sb, 4, none⟩ = some (.map (some B.rf)) := (blk_cell hB.store 4).trans rfl
  have hne := (hB.far hh).1
  have HD : Hid _ := hdel
  clear hB hc ht hh h1 hB1 hs1 hm hhl hF hs3 hj hdel
  generalize B.ad (.file d) = bb at *
  go_enter Tryz.func45, Tryz.ntmps45
  go_wp2_with (go_at_call 212; refine (letGo_any bb 1 _ hc0 hf0 (by omega) (by omega)).mono ?_; rintro e w4 ⟨rfl, rfl⟩)
  go_region_law (refine step_delete1 rfl 84 9 (.tmp 17) (.tmp 21) rfl (.map (some B.rf)) (SV d) rfl rfl w3 HD.out ?_)
  all_goals
    go_wp2
    go_end0
    exact ⟨rfl, HF.out⟩

set_option maxHeartbeats 4000000 in
set_option maxRecDepth 50000 in
theorem drop_lastDir {n : Nat} (H : DropAt n) (es : Ents) (B : Bank) (x : Tree → Nat) (w : World) (hn : SizeOf.sizeOf (Tree.dir es) ≤ n + 1) (hB : BankAt w B) (hc : Calm B x) (ht : 0 < x (.dir es)) (h1 : B.us (.dir es) = 1) :
    Calls Tryz.prog 45 #[ptrV B.sb, dirV (B.ad (.dir es))] w fun e w' => DropOut w B (fun s => x s - one (.dir es) s) e w' := by
  have hh := hc.supp _ ht
  obtain ⟨hc0, hf0⟩ := users_cell hB hh
  have hmeth := Tryz.letGoDir
  have a1 := Tryz.assertDirNo
  have a2 := Tryz.assertDir
  have hs1 := users_set1 hB hh (B.us (.dir es) - 1)
  have hB1 := hB.setUsers hh _ hs1
  rw [h1] at hc0 hs1 hB1
  have hl20 := hB.few hh
  have hch := hB.closed es hh
  obtain ⟨m, clock, hm, hhl, hF⟩ := hB1.find_dir (es := es) hl20 hch
  obtain ⟨w3, j, hj, hdel, hs3⟩ := run_delete_at Tryz.underlying83 (w := (w.setCell ⟨B.ad (.dir es), 0, none⟩ (.int .i64 (1 - 1 : Nat))).drew) hm (hF _ rfl) hh
  have HF : Hid (∃ B', Shrink w B w3 B' ∧ Calm B' (fun s => x s - one (.dir es) s + cntE s es)) := drop_dir hB hc ht h1 (by rw [h1]; exact hs1) hj hhl (w1 := w.setCell ⟨B.ad (.dir es), 0, none⟩ (.int .i64 (1 - 1 : Nat))) (w1' := (w.setCell ⟨B.ad (.dir es), 0, none⟩ (.int .i64 (1 - 1 : Nat))).drew) (below_like rfl rfl rfl rfl) hs3
  have hsc : w.cell? ⟨B.sb, 3, none⟩ = some (.map (some B.rd)) := (blk_cell hB.store 3).trans rfl
  have hD1 : DirAt (w.setCell ⟨B.ad (.dir es), 0, none⟩ (.int .i64 (1 - 1 : Nat))) (B.ad (.dir es)) ((1 - 1 : Nat) : Int) (valsE B.ad es) := ⟨(hB.dirs es hh).1, hs1.here⟩
  have hne := (hB.far hh).1
  have hned := (hB.far hh).2.2.1
  have hlv : (valsE B.ad es).length ≤ 20 := by rw [valsE_len]; exact hl20
  have HSL : Hid ((Tryz.prog.info? 147).map (·.size) = some (listCells (valsE B.ad es)).length) := by rw [Hid, Tryz.sizeListing, listCells_len hlv]
  have hsd : B.sb ≠ B.rd := hB.maps.2.1
  have hrS : (w.setCell ⟨B.ad (.dir es), 0, none⟩ (.int .i64 (1 - 1 : Nat))).rangeAt (B.ad (.dir es)) 1 (listCells (valsE B.ad es)) := fun j v hv => hD1.list.cell j v hv
  have hcS : (w.setCell ⟨B.ad (.dir es), 0, none⟩ (.int .i64 (1 - 1 : Nat))).cell? ⟨B.sb, 3, none⟩ = some (.map (some B.rd)) := (World.cell?_of_block (hs1.other _ (Ne.symm hne))).trans hsc
  have hD3 : DirAt w3 (B.ad (.dir es)) ((1 - 1 : Nat) : Int) (valsE B.ad es) := ⟨hD1.1, (hs3.other _ hned).trans hD1.2⟩
  have HRS : Hid (w3.rangeAt (B.ad (.dir es)) 1 (listCells (valsE B.ad es))) := fun j v hv => hD3.list.cell j v hv
  have hcnt : w3.cell? ⟨B.ad (.dir es), 1, none⟩ = some (.int .i64 es.length) := hD3.list.count.trans (by rw [valsE_len])
  have hL0 : ∃ B3, LoopD w B x es 0 w3 B3 := by
    obtain ⟨B3, h2, h3⟩ := HF.out
    exact ⟨B3, h2, by simpa using h3, _, hD3⟩
  have HL0 : Hid _ := hL0
  have HS3 : Hid (Set1 (w.setCell ⟨B.ad (.dir es), 0, none⟩ (.int .i64 (1 - 1 : Nat))).drew w3 B.rd _) := hs3
  have HD : Hid _ := hdel
  have HH : Hid (DropAt n) := H
  have HCH : Hid (∀ e ∈ es, B.has e.2) := hch
  have HNED : Hid _ := hned
  have HSD : Hid _ := hsd
  have HCS : Hid _ := hcS
  have HRS1 : Hid _ := hrS
  clear hB hc ht hh h1 hB1 hs1 hm hhl hF hs3 hj hdel H hch hD1 hD3 hL0 HF hned hsd hsc hcS hrS hlv
  go_enter Tryz.func45, Tryz.ntmps45
  go_wp2_with (go_at_call 212; refine (letGo_any (B.ad (.dir es)) 1 _ hc0 hf0 (by omega) (by omega)).mono ?_; rintro e w4 ⟨rfl, rfl⟩)
  refine wp_region_held_drew (S := fun W : World => W.cell? ⟨B.sb, 3, none⟩ = some (.map (some B.rd)) ∧ W.rangeAt (B.ad (.dir es)) 1 (listCells (valsE B.ad es))) (by kernel_rfl) ⟨HCS.out, HRS1.out⟩ (fun hS => ?_)
  refine wpAnyH_take (i := 0) (v := ptrV B.sb) rfl (by kernel_rfl) (by kernel_rfl) (by kernel_rfl) (fun _ _ _ h => h) (.inl ⟨by rfl, fun W hW => by rfl⟩) hS ?_
  simp only [List.getElem_toArray, List.getElem_cons_zero, Act.put, List.setIfInBounds_toArray, List.set_cons_zero, List.set_cons_succ]
  refine wpAnyH_take (i := 1) (v := ptrV B.sb) rfl (by kernel_rfl) (by kernel_rfl) (by kernel_rfl) (fun _ _ _ h => h) (.inl ⟨by rfl, fun W hW => by rfl⟩) hS ?_
  simp only [List.getElem_toArray, List.getElem_cons_zero, List.getElem_cons_succ, Act.put, List.setIfInBounds_toArray, List.set_cons_zero, List.set_cons_succ]
  refine wpAnyH_take (i := 2) (v := .pointer (some ⟨B.sb, 3, none⟩)) rfl (by kernel_rfl) (by kernel_rfl) (by kernel_rfl) (fun _ _ _ h => h) (.inl ⟨by rfl, fun W hW => by go_simp⟩) hS ?_
  simp only [List.getElem_toArray, List.getElem_cons_zero, List.getElem_cons_succ, Act.put, List.setIfInBounds_toArray, List.set_cons_zero, List.set_cons_succ]
  refine wpAnyH_take (i := 3) (v := .map (some B.rd)) rfl (by kernel_rfl) (by kernel_rfl) (by kernel_rfl) (fun _ _ _ h => h) (.inl ⟨by rfl, fun W hW => by have hc := hW.1; go_simp⟩) hS ?_
  simp only [List.getElem_toArray, List.getElem_cons_zero, List.getElem_cons_succ, Act.put, List.setIfInBounds_toArray, List.set_cons_zero, List.set_cons_succ]
  refine wpAnyH_take (i := 4) (v := ptrV (B.ad (.dir es))) rfl (by kernel_rfl) (by kernel_rfl) (by kernel_rfl) (fun _ _ _ h => h) (.inl ⟨by rfl, fun W hW => by rfl⟩) hS ?_
  simp only [List.getElem_toArray, List.getElem_cons_zero, List.getElem_cons_succ, Act.put, List.setIfInBounds_toArray, List.set_cons_zero, List.set_cons_succ]
  refine wpAnyH_take (i := 5) (v := ptrV (B.ad (.dir es))) rfl (by kernel_rfl) (by kernel_rfl) (by kernel_rfl) (fun _ _ _ h => h) (.inl ⟨by rfl, fun W hW => by rfl⟩) hS ?_
  simp only [List.getElem_toArray, List.getElem_cons_zero, List.getElem_cons_succ, Act.put, List.setIfInBounds_toArray, List.set_cons_zero, List.set_cons_succ]
  refine wpAnyH_take (i := 6) (v := .pointer (some ⟨B.ad (.dir es), 1, none⟩)) rfl (by kernel_rfl) (by kernel_rfl) (by kernel_rfl) (fun _ _ _ h => h) (.inl ⟨by rfl, fun W hW => by go_simp⟩) hS ?_
  simp only [List.getElem_toArray, List.getElem_cons_zero, List.getElem_cons_succ, Act.put, List.setIfInBounds_toArray, List.set_cons_zero, List.set_cons_succ]
  refine wpAnyH_take (i := 7) (v := .agg (listCells (valsE B.ad es)).toArray) rfl (by kernel_rfl) (by kernel_rfl) (by kernel_rfl) (fun _ _ _ h => h) (yieldsIf_load_mid rfl 147 (.tmp 31) rfl (B.ad (.dir es)) 1 rfl (listCells (valsE B.ad es)) _ (fun W hW => hW.2) Tryz.underlying147 rfl HSL.out) hS ?_
  simp only [List.getElem_toArray, List.getElem_cons_zero, List.getElem_cons_succ, Act.put, List.setIfInBounds_toArray, List.set_cons_zero, List.set_cons_succ]
  refine wpAnyH_ready (rs := [8]) (by kernel_rfl) (by simp) (AllReadyH.cons rfl (fun K hK => ?_) AllReadyH.nil)
  refine step_delete1 rfl 83 147 (.tmp 28) (.tmp 32) rfl (.map (some B.rd)) (.agg (listCells (valsE B.ad es)).toArray) rfl rfl w3 HD.out ?_
  refine hK.out _ _ ⟨?_, ?_⟩ (fun hS4 => ?_)
  · exact (World.cell?_of_block (HS3.out.other _ HSD.out)).trans HCS.out
  · exact HRS.out
  · refine wpAnyH_done (by kernel_rfl) ?_ _
    clear hS hK hS4 hc0 hf0
    go_wp2
    go_loopw [38] (fun i wr => ∃ (k : Nat) (Bk : Bank), k ≤ es.length ∧ i = .int .i64 k ∧ LoopD w B x es k wr Bk) (fun i _ => es.length - (intOf i).toNat)
    case atStart => obtain ⟨B3, h3⟩ := HL0.out; exact ⟨0, B3, Nat.zero_le _, rfl, h3⟩
    case round =>
      obtain ⟨k, Bk, hk, rfl, hLD⟩ := hrel
      by_cases hlt : k < es.length
      · have hidx : (k : Int) < 20 := by omega
        obtain ⟨ub, hdb⟩ := hLD.list
        have hn2 := hdb.list.node (k := k) (by rw [valsE_len]; exact hlt)
        have hn3 : (valsE B.ad es)[k]'(by rw [valsE_len]; exact hlt) = (es[k].1, valT B.ad es[k].2) := by simp [valsE]
        rw [hn3] at hn2
        have hx1 : 0 < x es[k].2 - one (.dir es) es[k].2 + cntE es[k].2 (es.drop k) := by
          have : 0 < cntE es[k].2 (es.drop k) := cntE_pos.2 ⟨es[k], by rw [List.drop_eq_getElem_cons hlt]; exact List.mem_cons_self, rfl⟩
          omega
        have hhk := hLD.calm.supp _ hx1
        have had := (hLD.shrink.old _ hhk).2.1
        have C : Hid (Calls Tryz.prog 45 #[ptrV B.sb, valT B.ad es[k].2] wr fun e w' => DropOut wr Bk (fun s => x s - one (.dir es) s + cntE s (es.drop k) - one es[k].2 s) e w') := by
          have := HH.out es[k].2 Bk _ wr (by have := size_ent hlt; omega) hLD.shrink.at' hLD.calm hx1
          rw [hLD.shrink.same.sb] at this
          have hv : valT Bk.ad es[k].2 = valT B.ad es[k].2 := by
            generalize es[k].2 = t at had
            cases t <;> simp only [valT] <;> rw [had]
          rw [hv] at this
          exact this
        obtain ⟨kk, nn, hform⟩ := valT_form B.ad es[k].2
        rw [hform] at hn2 C
        have HLD : Hid (LoopD w B x es k wr Bk) := hLD
        clear hLD hdb hn3 hx1 hhk had hform hcnt
        go_wp2_with (go_at_call 45; refine C.out.mono ?_; rintro e w2 ⟨rfl, B2, hS2, hC2⟩; have HLD2 := Hid.mk' (HLD.out.next hlt hS2 hC2); clear hS2 hC2)
        go_round
        case rel => exact ⟨k + 1, B2, by omega, by go_num, HLD2.out⟩
        case measure => simp [intOf]; omega
      · have hke : k = es.length := by omega
        subst hke
        have HE : Hid (∃ B', Shrink w B wr B' ∧ Calm B' (fun s => x s - one (.dir es) s)) := by
          refine ⟨Bk, hLD.shrink, ?_⟩
          have := hLD.calm
          rw [List.drop_length] at this
          have e : (fun s => x s - one (.dir es) s + cntE s []) = fun s => x s - one (.dir es) s := by funext s; simp [cntE]
          rw [e] at this; exact this
        clear hLD hcnt
        go_wp2
        go_end0
        exact ⟨rfl, HE.out⟩

theorem drop_all (n : Nat) : DropAt n := by
  induction n with
  | zero => intro t B x w hn; cases t <;> simp at hn <;> omega
  | succ n ih =>
    intro t B x w hn hB hc ht
    have hp := hc.pos t (hc.supp t ht)
    by_cases h1 : 1 < B.us t
    · exact drop_more t B x w hB hc ht h1
    · have h2 : B.us t = 1 := by omega
      cases t with
      | file d => exact drop_lastFile d B x w hB hc ht h2
      | dir es => exact drop_lastDir ih es B x w hn hB hc ht h2
theorem drop_any (t : Tree) (B : Bank) (x : Tree → Nat) (w : World) (hB : BankAt w B) (hc : Calm B x) (ht : 0 < x t) :
    Calls Tryz.prog 45 #[ptrV B.sb, valT B.ad t] w fun e w' => DropOut w B (fun s => x s - one t s) e w' := drop_all _ t B x w (Nat.le_refl _) hB hc ht

end Go.Proofs.YtdcbgfhkfmohiaaGreatDoor

/- The store whole: its state, its frame; Cells. -/
namespace Go.Proofs.YtdcbgfhkfmohiaaGreatDoor
open Go.RowKit

def Bank.own (B : Bank) (k : Nat) : Prop := k = B.sb ∨ k = B.rs ∨ k = B.rd ∨ k = B.rf ∨ B.reg k

/-- What a call on a store may have turned of the first N blocks: its own ones. -/
structure Ext (N : Nat) (w : World) (B : Bank) (w' : World) (B' : Bank) : Prop where
  os : w'.os = w.os
  tape : w'.tape = w.tape
  output : w'.output = w.output
  size : w.heap.size ≤ w'.heap.size
  four : B'.sb = B.sb ∧ B'.rs = B.rs ∧ B'.rd = B.rd ∧ B'.rf = B.rf ∧ B'.rr = B.rr
  blk : ∀ k, k < N → ¬ B.own k → w'.heap[k]? = w.heap[k]?
  own : ∀ k, B'.own k → B.own k ∨ N ≤ k

theorem Ext.trans {N : Nat} {w w1 w2 : World} {B B1 B2 : Bank} (h : Ext N w B w1 B1) (k : Ext N w1 B1 w2 B2) : Ext N w B w2 B2 where
  os := k.os.trans h.os
  tape := k.tape.trans h.tape
  output := k.output.trans h.output
  size := Nat.le_trans h.size k.size
  four := ⟨k.four.1.trans h.four.1, k.four.2.1.trans h.four.2.1, k.four.2.2.1.trans h.four.2.2.1, k.four.2.2.2.1.trans h.four.2.2.2.1, k.four.2.2.2.2.trans h.four.2.2.2.2⟩
  blk := fun i hi hn => (k.blk i hi (fun ho => (h.own i ho).elim hn (fun h2 => by omega))).trans (h.blk i hi hn)
  own := fun i hi => (k.own i hi).elim (fun h2 => h.own i h2) .inr
theorem Ext.of_below {N : Nat} {w w' : World} {B : Bank} (hN : N ≤ w.heap.size) (h : Below w.heap.size w w') : Ext N w B w' B :=
  ⟨h.os, h.tape, h.output, h.size, ⟨rfl, rfl, rfl, rfl, rfl⟩, fun k hk _ => h.block k (by omega), fun _ h => .inl h⟩
theorem Ext.of_grow {N : Nat} {w w' : World} {B B' : Bank} (hN : N ≤ w.heap.size) (h : Grow N w B w' B') : Ext N w B w' B' where
  os := h.step.os
  tape := h.step.tape
  output := h.step.output
  size := h.step.size
  four := ⟨h.same.sb, h.same.rs, h.same.rd, h.same.rf, h.same.rr⟩
  blk := fun k hk hn => by
    rcases h.step.blk k (by omega) with h1 | ⟨⟨t, h1, h2⟩, _⟩ | h1
    · exact h1
    · refine absurd (.inr (.inr (.inr (.inr ?_)))) hn
      rcases h.new t h1 with h3 | h3
      · exact ⟨t, h3, (h.old t h3).2.1.symm.trans h2⟩
      · omega
    · refine absurd ?_ hn
      rcases h1 with h1 | h1 | h1 | h1
      · exact .inl h1
      · exact .inr (.inl h1)
      · exact .inr (.inr (.inl h1))
      · exact .inr (.inr (.inr (.inl h1)))
  own := fun k hk => by
    rcases hk with h1 | h1 | h1 | h1 | ⟨t, h1, h2⟩
    · exact .inl (.inl (h1.trans h.same.sb))
    · exact .inl (.inr (.inl (h1.trans h.same.rs)))
    · exact .inl (.inr (.inr (.inl (h1.trans h.same.rd))))
    · exact .inl (.inr (.inr (.inr (.inl (h1.trans h.same.rf)))))
    · rcases h.new t h1 with h3 | h3
      · exact .inl (.inr (.inr (.inr (.inr ⟨t, h3, (h.old t h3).2.1.symm.trans h2⟩))))
      · exact .inr (by omega)
theorem Ext.of_shrink {N : Nat} {w w' : World} {B B' : Bank} (hN : N ≤ w.heap.size) (h : Shrink w B w' B') : Ext N w B w' B' where
  os := h.step.os
  tape := h.step.tape
  output := h.step.output
  size := h.step.size
  four := ⟨h.same.sb, h.same.rs, h.same.rd, h.same.rf, h.same.rr⟩
  blk := fun k hk hn => by
    rcases h.step.blk k (by omega) with h1 | ⟨h1, _⟩ | h1
    · exact h1
    · exact absurd (.inr (.inr (.inr (.inr h1)))) hn
    · refine absurd ?_ hn
      rcases h1 with h1 | h1 | h1 | h1
      · exact .inl h1
      · exact .inr (.inl h1)
      · exact .inr (.inr (.inl h1))
      · exact .inr (.inr (.inr (.inl h1)))
  own := fun k hk => by
    rcases hk with h1 | h1 | h1 | h1 | h1
    · exact .inl (.inl (h1.trans h.same.sb))
    · exact .inl (.inr (.inl (h1.trans h.same.rs)))
    · exact .inl (.inr (.inr (.inl (h1.trans h.same.rd))))
    · exact .inl (.inr (.inr (.inr (.inl (h1.trans h.same.rf)))))
    · exact .inl (.inr (.inr (.inr (.inr (h.reg k h1)))))
/-- One own block has turned. -/
theorem Ext.of_set1 {N : Nat} {w w' : World} {B B' : Bank} {r : Nat} {o : Obj} (hs : Set1 w w' r o) (hr : B.own r) (h4 : B'.sb = B.sb ∧ B'.rs = B.rs ∧ B'.rd = B.rd ∧ B'.rf = B.rf ∧ B'.rr = B.rr) (hown : ∀ k, B'.own k → B.own k) : Ext N w B w' B' :=
  ⟨hs.os, hs.tape, hs.output, by rw [hs.size]; exact Nat.le_refl _, h4, fun k _ hn => hs.other k (fun e => hn (e ▸ hr)), fun k hk => .inl (hown k hk)⟩

/-- A store as a call finds it. -/
structure Okay (w : World) (B : Bank) : Prop where
  at' : BankAt w B
  calm : Calm B (fun _ => 0)
  wf : ∀ s ∈ B.ss, WFE s.2 ∧ (filesE s.2).length ≤ 20 ∧ heightE s.2 ≤ 5
  few : B.ss.length ≤ 12
  room : B.ds.length + B.fs.length ≤ B.room ∧ B.room ≤ 200
  nums : ∀ s ∈ B.ss, s.1 < B.made

/-- The program's store and the document's have the same in them. -/
structure Agree (B : Bank) (r : RSt) : Prop where
  room : B.room = r.limit
  made : B.made = r.made
  all : B.ss.map (fun s => (s.1, toF (filesE s.2))) = r.all

theorem Okay.cells {w : World} {B : Bank} (h : Okay w B) : cellsL ((B.ss.map (·.2)).map fun e => toF (filesE e)) = B.ds.length + B.fs.length := by
  refine bank_cells h.at' h.calm.exact' h.calm.pos ?_ ?_ ?_
  · intro e he; simp only [List.mem_map] at he; obtain ⟨s, hs, rfl⟩ := he; exact (h.wf s hs).1
  · intro e he; simp only [List.mem_map] at he; obtain ⟨s, hs, rfl⟩ := he; exact h.at'.roots s hs
  · intro t ht
    obtain ⟨s, hs, rfl⟩ := occS_pos.1 (by omega : 0 < occS B.ss t)
    exact ⟨s.2, List.mem_map_of_mem hs, rfl⟩
theorem Agree.cells {w : World} {B : Bank} {r : RSt} (h : Okay w B) (ha : Agree B r) : cellsOf r = B.ds.length + B.fs.length := by
  rw [← h.cells]; unfold cellsOf; rw [← ha.all]; simp [List.map_map, Function.comp_def]

theorem nodup_sub {α : Type} {a b : List α} (ha : a.Nodup) (h : ∀ x ∈ a, x ∈ b) : a.length ≤ b.length := by
  induction a generalizing b with
  | nil => simp
  | cons x a ih =>
    rw [List.nodup_cons] at ha
    obtain ⟨l1, l2, rfl⟩ := List.append_of_mem (h x (by simp))
    have := ih (b := l1 ++ l2) ha.2 (fun y hy => by
      have := h y (by simp [hy])
      simp only [List.mem_append, List.mem_cons] at this ⊢
      rcases this with h1 | h1 | h1
      · exact .inl h1
      · exact absurd (h1 ▸ hy) ha.1
      · exact .inr h1)
    simp only [List.length_append, List.length_cons] at this ⊢; omega

theorem run_lenMap {P : Program} {w : World} {t k e ty : TypeId} {r c : Nat} {m : Array MapEntry} (ht : P.underlying t = some (.map k e)) (hb : w.heap[r]? = some (.map m c)) : (Builtin.len_ #[t] ty #[.map (some r)]).run P w = .ok (goInt m.size) w := by
  simp [Builtin.len_, run_underlying ht, MapKept.run_getObj_map hb, Result.andThen]
/-- len of a map, in a region that only reads. -/
theorem quiet_len {P : Program} {ops : Array Oper} {C : World → Prop} {Q : Act → Prop} {a : Act} {o : Oper} {rest : List Oper} (hgd : o.guard = none) (t : TypeId) (x : Operand) (ho : o.op = .call { callee := .builtin .len, args := #[x], argTypes := #[t] })
    (k e : TypeId) (ht : P.underlying t = some (.map k e)) (r c : Nat) (m : Array MapEntry) (hx : a.eval x = .map (some r)) (hb : ∀ w, C w → w.heap[r]? = some (.map m c)) (n : Nat) (hn : m.size = n)
    (h : wpQuiet P ops C Q rest (a.put o.dst (.int .i64 n))) : wpQuiet P ops C Q (o :: rest) a :=
  BigFrame.wpQuiet_want (by simp [Region.wanted, hgd]) fun K hK => ⟨.int .i64 n, fun w hw => by
    have hr : (execOp a.eval o).run P w = .ok (.value (.int .i64 n)) w := by
      rw [← hn]
      simp only [execOp, ho, resolve, invoke, builtin, Sem.run_bind, Sem.run_pure, Result.andThen_ok, List.map_toArray, List.map_cons, List.map_nil, hx, run_lenMap ht (hb w hw), goInt]
    unfold Oper.quietAt; rw [hr]; exact ⟨rfl, rfl⟩, hK _ h⟩
theorem wpList_len {P : Program} {ops : Array Oper} {rest : List Oper} {o : Oper} {a : Act} {w : World} {Q : Exit → Act → World → Prop} (hgd : o.guard = none) (t : TypeId) (x : Operand) (ho : o.op = .call { callee := .builtin .len, args := #[x], argTypes := #[t] })
    (k e : TypeId) (ht : P.underlying t = some (.map k e)) (r c : Nat) (m : Array MapEntry) (hx : a.eval x = .map (some r)) (hb : w.heap[r]? = some (.map m c)) (n : Nat) (hn : m.size = n)
    (h : wpList P ops Q rest (a.put o.dst (.int .i64 n)) w) : wpList P ops Q (o :: rest) a w := by
  refine wpList_plain hgd fun K hK => ?_
  subst hn
  unfold Oper.wp
  simp only [execOp, ho, resolve, invoke, builtin, Sem.run_bind, Sem.run_pure, Result.andThen_ok, List.map_toArray, List.map_cons, List.map_nil, hx, run_lenMap ht hb, goInt]
  exact hK _ _ h

set_option maxHeartbeats 1000000 in
theorem bankCells_any (B : Bank) (w : World) (h : BankAt w B) (hr : B.ds.length + B.fs.length ≤ 1000000) :
    Calls Tryz.prog 16 #[ptrV B.sb] w fun e w' => e = .returned (.int .i64 ((B.ds.length + B.fs.length : Nat) : Int)) ∧ ∃ n, w' = w.drewN n := by
  obtain ⟨m2, c2, h2, k2⟩ := h.dmap
  obtain ⟨m3, c3, h3, k3⟩ := h.fmap
  have s3 : w.cell? ⟨B.sb, 3, none⟩ = some (.map (some B.rd)) := (blk_cell h.store 3).trans rfl
  have s4 : w.cell? ⟨B.sb, 4, none⟩ = some (.map (some B.rf)) := (blk_cell h.store 4).trans rfl
  have l2 := k2.len
  have l3 := k3.len
  have L2 : Hid _ := l2
  have L3 : Hid _ := l3
  have H2 : Hid _ := h2
  have H3 : Hid _ := h3
  clear h k2 k3 h2 h3 l2 l3
  go_enter Tryz.func16, Tryz.ntmps16
  go_wp2
  refine wp_region_quiet_lit (by kernel_rfl) (by kernel_rfl) ?_
  quiet_step (fail)
  quiet_step (fail)
  quiet_step (fail)
  quiet_step (fail)
  refine quiet_len rfl 83 (.tmp 6) rfl _ _ Tryz.underlying83 B.rd c2 m2 rfl (fun W hW => by obtain ⟨n, rfl⟩ := hW; exact H2.out) _ L2.out ?_
  quiet_step (fail)
  quiet_step (fail)
  quiet_step (fail)
  quiet_step (fail)
  refine quiet_len rfl 84 (.tmp 11) rfl _ _ Tryz.underlying84 B.rf c3 m3 rfl (fun W hW => by obtain ⟨n, rfl⟩ := hW; exact H3.out) _ L3.out ?_
  quiet_step (fail)
  quiet_step (fail)
  refine wpQuiet_nil ?_
  intro _ hw'
  obtain ⟨nq, hw''⟩ := hw'
  subst hw''
  go_wp2
  go_ret
  refine ⟨?_, nq, rfl⟩
  rw [Int.natCast_add]
  exact ret_int (IntWalk.i64_in _ (by omega))

end Go.Proofs.YtdcbgfhkfmohiaaGreatDoor

/- add. -/
namespace Go.Proofs.YtdcbgfhkfmohiaaGreatDoor
open Go.RowKit

/-- What an edit answers. -/
def StepOut (N : Nat) (w : World) (B : Bank) (o : RSt × Nat × Nat) (e : Ending) (w' : World) : Prop :=
  ∃ B', e = .returned (.tuple #[.int .i64 o.2.1, .int .i64 o.2.2]) ∧ Okay w' B' ∧ Agree B' o.1 ∧ Ext N w B w' B'

mutual
theorem dirs_boundT : ∀ (t : Tree), WFT t → (dirsT t).length ≤ (filesT t).length * heightT t
  | .file d, _ => by simp [dirsT]
  | .dir es, h => by
    unfold WFT at h
    have h1 := dirs_boundE es h.2
    rw [dirsT, filesT, heightT, List.length_cons]
    have h2 : 1 ≤ es.length := List.length_pos_iff.2 h.1
    have h3 := entries_le h.2
    obtain ⟨e, es', rfl⟩ : ∃ e es', es = e :: es' := by
      cases es with
      | nil => exact absurd rfl h.1
      | cons e es' => exact ⟨e, es', rfl⟩
    obtain ⟨x, t⟩ := e
    have h4 : 1 ≤ heightE ((x, t) :: es') := by simp only [heightE]; omega
    obtain ⟨m, hm⟩ : ∃ m, heightE ((x, t) :: es') = m + 1 := ⟨heightE ((x, t) :: es') - 1, by omega⟩
    rw [hm, Nat.add_sub_cancel] at h1
    rw [hm, Nat.mul_succ]; omega
theorem dirs_boundE : ∀ (es : Ents), WFE es → (dirsE es).length ≤ (filesE es).length * (heightE es - 1)
  | [], _ => by simp [dirsE]
  | (x, t) :: es, h => by
    unfold WFE at h
    have h1 := dirs_boundT t h.2.1
    have h2 := dirs_boundE es h.2.2.2
    simp only [dirsE, filesE, heightE, List.length_append, List.length_map, Nat.add_mul]
    have h3 : (filesT t).length * heightT t ≤ (filesT t).length * (max (1 + heightT t) (heightE es) - 1) := Nat.mul_le_mul_left _ (by omega)
    have h4 : (filesE es).length * (heightE es - 1) ≤ (filesE es).length * (max (1 + heightT t) (heightE es) - 1) := Nat.mul_le_mul_left _ (by omega)
    omega
end
theorem dirs_100 {es : Ents} (h : WFE es) (h1 : (filesE es).length ≤ 20) (h2 : heightE es ≤ 5) : (dirsE es).length ≤ 100 := by
  have h3 := dirs_boundE es h
  have h4 : (filesE es).length * (heightE es - 1) ≤ 20 * 5 := Nat.mul_le_mul h1 (by omega)
  omega

/-- The new root held: users counted, its one user besides. -/
theorem held_calm {N : Nat} {w w1 : World} {B B1 : Bank} {es : Ents} (hO : Okay w B) (hK : KeepOut1 N w B (.dir es) w1 B1) (hl : B1.ds.length ≤ 100000) :
    Calm { B1 with us := upd B1.us (.dir es) (B1.us (.dir es) + 1) } (one (.dir es)) := by
  obtain ⟨hG, hX, hh, hz, _⟩ := hK
  have hb : ∀ s, B1.has s → B1.us s ≤ 2201000 := fun s hs => users_bound hG.at' hX hs hl (by rw [hG.same.ss]; have := hO.few; omega) (Nat.zero_le _)
  refine ⟨?_, ?_, ?_, ?_⟩
  · have := hX.hold (.dir es)
    exact this.congr (fun s _ => by simp)
  · intro s hs
    show 0 < upd B1.us (.dir es) (B1.us (.dir es) + 1) s
    by_cases e : s = .dir es
    · subst e; rw [upd_same]; omega
    · rw [upd_other e]
      have hs' : B1.has s := hs
      rcases Nat.eq_zero_or_pos (B1.us s) with h0 | h0
      · rcases hz s hs' h0 with h1 | ⟨h1, h2⟩
        · exact absurd h1 e
        · have := hO.calm.pos s h1; omega
      · exact h0
  · intro s hs
    by_cases e : s = .dir es
    · subst e; exact hh
    · rw [one_other e] at hs; omega
  · intro s hs
    have h1 := hb s hs
    have h2 := hb _ hh
    show upd B1.us (.dir es) (B1.us (.dir es) + 1) s < _
    by_cases e : s = .dir es
    · subst e; rw [upd_same]; omega
    · rw [upd_other e]; omega

theorem held_cells {w2 : World} {B2 : Bank} {es : Ents} {ss : List (Nat × Ents)} (hA : BankAt w2 B2) (hC : Calm B2 (one (.dir es))) (hss : B2.ss = ss) (hwf : ∀ s ∈ ss, WFE s.2) (he : WFE es) :
    cellsL ((ss.map (·.2) ++ [es]).map fun e => toF (filesE e)) = B2.ds.length + B2.fs.length := by
  subst hss
  refine bank_cells hA hC.exact' hC.pos ?_ ?_ ?_
  · intro r hr
    simp only [List.mem_append, List.mem_map, List.mem_singleton] at hr
    rcases hr with ⟨s, hs, rfl⟩ | rfl
    · exact hwf s hs
    · exact he
  · intro r hr
    simp only [List.mem_append, List.mem_map, List.mem_singleton] at hr
    rcases hr with ⟨s, hs, rfl⟩ | rfl
    · exact hA.roots s hs
    · exact hC.supp (.dir r) (by rw [one_same]; omega)
  · intro t ht
    by_cases e : t = .dir es
    · exact ⟨es, by simp, e⟩
    · rw [one_other e] at ht
      obtain ⟨s, hs, rfl⟩ := occS_pos.1 (by omega : 0 < occS B2.ss t)
      exact ⟨s.2, by simp only [List.mem_append, List.mem_map]; exact .inl ⟨s, hs, rfl⟩, rfl⟩

end Go.Proofs.YtdcbgfhkfmohiaaGreatDoor

/- The register of snapshots. -/
namespace Go.Proofs.YtdcbgfhkfmohiaaGreatDoor
open Go.RowKit

section
variable {w w' : World} {B : Bank}

theorem BankAt.setMade (h : BankAt w B) (n : Nat) : BankAt (w.setCell ⟨B.sb, 1, none⟩ (.int .i64 n)) { B with made := n } ∧ Set1 w (w.setCell ⟨B.sb, 1, none⟩ (.int .i64 n)) B.sb (.cells #[.int .i64 B.room, .int .i64 n, .map (some B.rs), .map (some B.rd), .map (some B.rf), .map (some B.rr)] 87 (0, 0)) := by
  have hs : Set1 w (w.setCell ⟨B.sb, 1, none⟩ (.int .i64 n)) B.sb (.cells #[.int .i64 B.room, .int .i64 n, .map (some B.rs), .map (some B.rd), .map (some B.rf), .map (some B.rr)] 87 (0, 0)) := setCell_set1 h.store _
  obtain ⟨m1, c1, h1, k1⟩ := h.snaps
  obtain ⟨m2, c2, h2, k2⟩ := h.dmap
  obtain ⟨m3, c3, h3, k3⟩ := h.fmap
  have hmp := h.maps
  exact ⟨⟨hs.here, ⟨m1, c1, (hs.other _ (Ne.symm hmp.1)).trans h1, k1⟩, ⟨m2, c2, (hs.other _ (Ne.symm hmp.2.1)).trans h2, k2⟩, ⟨m3, c3, (hs.other _ (Ne.symm hmp.2.2)).trans h3, k3⟩, h.apart,
    fun d hd => (hs.other _ (h.far (t := .file d) hd).1).trans (h.files d hd), fun es he => ⟨(h.dirs es he).1, (hs.other _ (h.far (t := .dir es) he).1).trans (h.dirs es he).2⟩, h.closed, h.roots, h.ndD, h.ndF, h.ndS⟩, hs⟩

/-- The snapshots with their numbers as the program has them. -/
def numsI (ss : List (Nat × Ents)) : List (Int × Ents) := ss.map fun s => ((s.1 : Int), s.2)

theorem BankAt.snapsI (h : BankAt w B) : ∃ m c, w.heap[B.rs]? = some (.map m c) ∧ Holds m (fun s : Nat × Ents => .int .i64 s.1) (fun s => ptrV (B.ad (.dir s.2))) B.ss ∧ Holds m (fun x : Int × Ents => .int .i64 x.1) (fun x => ptrV (B.ad (.dir x.2))) (numsI B.ss) := by
  obtain ⟨m1, c1, h1, k1⟩ := h.snaps
  refine ⟨m1, c1, h1, k1, ?_⟩
  unfold Holds numsI at *
  rw [k1]; simp [List.map_map, Function.comp_def]

theorem pairs_unique {l : List (Nat × Ents)} {n : Nat} {es es' : Ents} (h : (l.map (·.1)).Nodup) (h1 : (n, es) ∈ l) (h2 : (n, es') ∈ l) : es = es' := by
  induction l with
  | nil => simp at h1
  | cons a l ih =>
    simp only [List.map_cons, List.nodup_cons, List.mem_map, not_exists, not_and] at h
    simp only [List.mem_cons] at h1 h2
    rcases h1 with h1 | h1 <;> rcases h2 with h2 | h2
    · rw [← h2] at h1; simpa using h1
    · exact absurd (by rw [← h1]) (h.1 _ h2)
    · exact absurd (by rw [← h2]) (h.1 _ h1)
    · exact ih h.2 h1 h2
theorem num_unique (h : BankAt w B) {n : Nat} {es es' : Ents} (h1 : (n, es) ∈ B.ss) (h2 : (n, es') ∈ B.ss) : es = es' := pairs_unique h.ndS h1 h2

theorem BankAt.find_in (h : BankAt w B) {n : Nat} {es : Ents} (hin : (n, es) ∈ B.ss) : ∃ m c, w.heap[B.rs]? = some (.map m c) ∧ Holds m (fun s : Nat × Ents => .int .i64 s.1) (fun s => ptrV (B.ad (.dir s.2))) B.ss ∧
    ∀ W : World, Finds W 3 (.int .i64 (n : Int)) m (fun s : Nat × Ents => ptrV (B.ad (.dir s.2))) B.ss (n, es) := by
  obtain ⟨m1, c1, h1, k1⟩ := h.snaps
  refine ⟨m1, c1, h1, k1, fun W => ?_⟩
  have := finds_int (w := W) (g := fun s : Nat × Ents => (s.1 : Int)) (x0 := (n, es)) k1 (fun x hx he => by
    obtain ⟨a, b⟩ := x
    have e : n = a := by simp only at he; omega
    subst e
    rw [num_unique h hin hx])
  exact this
theorem BankAt.find_out (h : BankAt w B) {n : Int} (hout : ∀ s ∈ B.ss, (s.1 : Int) ≠ n) : ∃ m c, w.heap[B.rs]? = some (.map m c) ∧ Holds m (fun s : Nat × Ents => .int .i64 s.1) (fun s => ptrV (B.ad (.dir s.2))) B.ss ∧
    (n, []) ∉ numsI B.ss ∧ ∀ W : World, Finds W 3 (.int .i64 n) m (fun x : Int × Ents => ptrV (B.ad (.dir x.2))) (numsI B.ss) (n, []) := by
  obtain ⟨m1, c1, h1, k1, k2⟩ := h.snapsI
  have hno : ∀ x ∈ numsI B.ss, n ≠ x.1 := by
    intro x hx
    simp only [numsI, List.mem_map] at hx
    obtain ⟨s, hs, rfl⟩ := hx
    exact Ne.symm (hout s hs)
  refine ⟨m1, c1, h1, k1, fun hm => hno _ hm rfl, fun W => ?_⟩
  exact finds_int (w := W) (g := fun x : Int × Ents => x.1) (x0 := (n, [])) k2 (fun x hx he => absurd he (hno x hx))

theorem BankAt.addSnap (h : BankAt w B) {n : Nat} {es : Ents} (he : es ∈ B.ds) (hn : ∀ s ∈ B.ss, s.1 ≠ n) {m : Array MapEntry} {c : Nat} (hh : Holds m (fun s : Nat × Ents => .int .i64 s.1) (fun s => ptrV (B.ad (.dir s.2))) B.ss)
    (hs : Set1 w w' B.rs (.map (m.push { key := .int .i64 (n : Int), val := ptrV (B.ad (.dir es)), born := c }) (c + 1))) : BankAt w' { B with ss := B.ss ++ [(n, es)] } := by
  obtain ⟨m2, c2, h2, k2⟩ := h.dmap
  obtain ⟨m3, c3, h3, k3⟩ := h.fmap
  have hmp := h.maps
  refine ⟨(hs.other _ hmp.1).trans h.store, ⟨_, _, hs.here, ?_⟩, ⟨m2, c2, (hs.other _ (Ne.symm h.apart.1)).trans h2, k2⟩, ⟨m3, c3, (hs.other _ (Ne.symm h.apart.2.1)).trans h3, k3⟩, h.apart,
    fun d hd => (hs.other _ (h.far (t := .file d) hd).2.1).trans (h.files d hd), fun es he => ⟨(h.dirs es he).1, (hs.other _ (h.far (t := .dir es) he).2.1).trans (h.dirs es he).2⟩, h.closed, ?_, h.ndD, h.ndF, ?_⟩
  · unfold Holds at *; simp [hh]
  · intro s hs2
    simp only [List.mem_append, List.mem_singleton] at hs2
    rcases hs2 with hs2 | rfl
    · exact h.roots s hs2
    · exact he
  · show ((B.ss ++ [(n, es)]).map (·.1)).Nodup
    rw [List.map_append, List.nodup_append]
    refine ⟨h.ndS, by simp, fun a ha b hb e => ?_⟩
    simp only [List.mem_map] at ha
    obtain ⟨s, hs3, rfl⟩ := ha
    simp at hb
    exact hn s hs3 (e.trans hb)

theorem BankAt.delSnap (h : BankAt w B) {j : Nat} {m : Array MapEntry} {c : Nat} (hh : Holds m (fun s : Nat × Ents => .int .i64 s.1) (fun s => ptrV (B.ad (.dir s.2))) B.ss)
    (hs : Set1 w w' B.rs (.map (m.eraseIdxIfInBounds j) c)) : BankAt w' { B with ss := B.ss.eraseIdx j } := by
  obtain ⟨m2, c2, h2, k2⟩ := h.dmap
  obtain ⟨m3, c3, h3, k3⟩ := h.fmap
  have hmp := h.maps
  refine ⟨(hs.other _ hmp.1).trans h.store, ⟨_, _, hs.here, hh.erase j⟩, ⟨m2, c2, (hs.other _ (Ne.symm h.apart.1)).trans h2, k2⟩, ⟨m3, c3, (hs.other _ (Ne.symm h.apart.2.1)).trans h3, k3⟩, h.apart,
    fun d hd => (hs.other _ (h.far (t := .file d) hd).2.1).trans (h.files d hd), fun es he => ⟨(h.dirs es he).1, (hs.other _ (h.far (t := .dir es) he).2.1).trans (h.dirs es he).2⟩, h.closed, ?_, h.ndD, h.ndF, ?_⟩
  · intro s hs2; exact h.roots s (List.mem_of_mem_eraseIdx hs2)
  · show ((B.ss.eraseIdx j).map (·.1)).Nodup
    rw [map_erase]; exact eraseIdx_nodup h.ndS j
end

end Go.Proofs.YtdcbgfhkfmohiaaGreatDoor
