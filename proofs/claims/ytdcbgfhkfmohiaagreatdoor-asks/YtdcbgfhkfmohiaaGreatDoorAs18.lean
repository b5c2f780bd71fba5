/- The law's step. -/
import Derived.Test.YtdcbgfhkfmohiaaGreatDoorAs17
import Derived.Test.YtdcbgfhkfmohiaaGreatDoorCards
import Derived.Test.YtdcbgfhkfmohiaaGreatDoorTie
import Derived.ProofKit
import Derived.OpenShut
import Derived.Deep.Slices
import Derived.SizedLaws
import Derived.Shelf.Vars
namespace Go.Proofs.YtdcbgfhkfmohiaaGreatDoor
open Go.RowKit

def LawOut (base : Nat) (w : World) (g : Nat) (m : Nat) (e : Ending) (w' : World) : Prop := e = .returned (.bool true) ∧ ∃ v' Ds', LawAt base w' g v' Ds' (m + 1) ∧ Ds' ≠ [] ∧ Below base w w'

/-- One pair has gone on. -/
theorem LawAt.turn {base : Nat} {w w' : World} {g : Nat} {v : Value} {Ds : List Duo} {m k : Nat} {D' : Duo} (h : LawAt base w g v Ds m) (hk : k < Ds.length) (hD : DuoAt w' D') (hS : DuoStep w Ds[k] w' D') : LawAt base w' g v (Ds.set k D') (m + 1) ∧ Below base w w' := by
  have hgl : g < w.heap.size := (Array.getElem?_eq_some_iff.1 h.blk).1
  have hmem : Ds[k] ∈ Ds := List.getElem_mem hk
  have hfr := h.free _ hmem
  have hbase : base ≤ w.heap.size := by have := h.gb; omega
  have hoth : ∀ j (hj : j < Ds.length), j ≠ k → ∀ x, Ds[j].own x → ¬ Ds[k].own x := by
    intro j hj hne x h1 h2
    rcases Nat.lt_or_gt_of_ne hne with hlt | hgt
    · exact (List.pairwise_iff_getElem.1 h.apart j k hj hk hlt) x h1 h2
    · exact (List.pairwise_iff_getElem.1 h.apart k j hk hj hgt) x h2 h1
  have hnew : ∀ x, D'.own x → x ≠ g ∧ v.ownBlock ≠ some x ∧ base ≤ x := by
    intro x hx
    rcases hS.own x hx with h1 | h1
    · exact hfr x h1
    · exact ⟨by omega, fun e => by have := (h.row.lt x e).2; omega, by omega⟩
  have hcross : ∀ j (hj : j < Ds.length), j ≠ k → ∀ x, Ds[j].own x → ¬ D'.own x := by
    intro j hj hne x h1 h2
    rcases hS.own x h2 with h3 | h3
    · exact hoth j hj hne x h1 h3
    · have := (h.duos _ (List.getElem_mem hj)).own_lt h1; omega
  have hflat : flatP (Ds.set k D') = flatP Ds := by
    unfold flatP
    have : (Ds.set k D').map (fun D => [ptrV D.B.sb, ptrV D.b]) = Ds.map (fun D => [ptrV D.B.sb, ptrV D.b]) := by
      rw [List.map_set]
      apply List.ext_getElem?
      intro i
      by_cases e : k = i
      · subst e
        rw [List.getElem?_set_self (by simpa using hk), List.getElem?_map, List.getElem?_eq_getElem hk]
        simp [hS.sb, hS.b]
      · rw [List.getElem?_set_ne e]
    rw [List.flatMap_def, List.flatMap_def, this]
  have hBel : Below base w w' := ⟨hS.os, hS.tape, hS.output, hS.size, fun x hx => hS.blk x (by omega) (fun ho => by have := (hfr x ho).2.2; omega)⟩
  refine ⟨⟨(hS.blk g hgl (fun ho => (hfr g ho).1 rfl)).trans h.blk, ?_, ?_, ?_, ?_, h.gb, ?_, ?_, h.mx.below hBel h.mb, h.mb⟩, hBel⟩
  · rw [hflat, List.length_set]
    exact rowKept h.row (fun x hx => hS.blk x (h.row.lt x hx).2 (fun ho => (hfr x ho).2.1 hx))
  · intro E hE
    obtain ⟨j, hj, rfl⟩ := List.getElem_of_mem hE
    rw [List.length_set] at hj
    by_cases e : k = j
    · subst e; rw [List.getElem_set_self]; exact hD
    · rw [List.getElem_set_ne e]
      exact (h.duos _ (List.getElem_mem hj)).frame fun x hx => hS.blk x ((h.duos _ (List.getElem_mem hj)).own_lt hx) (hoth j hj (Ne.symm e) x hx)
  · rw [List.pairwise_iff_getElem]
    intro i j hi hj hij x h1 h2
    rw [List.length_set] at hi hj
    by_cases e1 : k = i
    · subst e1
      rw [List.getElem_set_self] at h1
      rw [List.getElem_set_ne (by omega)] at h2
      exact hcross j hj (by omega) x h2 h1
    · rw [List.getElem_set_ne e1] at h1
      by_cases e2 : k = j
      · subst e2
        rw [List.getElem_set_self] at h2
        exact hcross i hi (Ne.symm e1) x h1 h2
      · rw [List.getElem_set_ne e2] at h2
        exact (List.pairwise_iff_getElem.1 h.apart i j hi hj hij) x h1 h2
  · intro E hE x hx
    obtain ⟨j, hj, rfl⟩ := List.getElem_of_mem hE
    rw [List.length_set] at hj
    by_cases e : k = j
    · subst e; rw [List.getElem_set_self] at hx; exact hnew x hx
    · rw [List.getElem_set_ne e] at hx; exact h.free _ (List.getElem_mem hj) x hx
  · intro E hE
    obtain ⟨j, hj, rfl⟩ := List.getElem_of_mem hE
    rw [List.length_set] at hj
    by_cases e : k = j
    · subst e; rw [List.getElem_set_self]; have := hS.made; have := h.made _ hmem; omega
    · rw [List.getElem_set_ne e]; have := h.made _ (List.getElem_mem hj); omega
  · rw [List.length_set]; have := h.len; omega

/-- What asks answers, where it is asked. -/
def AsksOk (K Wn N M : Int) (S T : Str) (L : Value) : Prop := 6 < K → K ≤ 11 → ∀ D w, DuoAt w D → D.r.made < 4611686018427387904 → MaxOk w → Calls Tryz.prog 70 #[pairV D, opV K Wn N M S T L] w fun e w' => EditOut w D e w'

set_option maxHeartbeats 4000000 in
set_option maxRecDepth 50000 in
theorem step_go (base : Nat) (g : Nat) (v : Value) (Ds : List Duo) (m : Nat) (K Wn N M : Int) (S T : Str) (L : Value) (w : World) (h : LawAt base w g v Ds m) (hne : Ds ≠ []) (hm : m < 4000000000000) (hW : InI Wn) (hS : S.length + 1 < maxLen) (hT : T.length + 1 < maxLen) (h1 : 2 ≤ K) (h2 : K ≤ 11) (hask : AsksOk K Wn N M S T L) :
    Calls Tryz.prog 42 #[ptrV g, opV K Wn N M S T L] w fun e w' => LawOut base w g m e w' := by
  have hpos : 0 < Ds.length := List.length_pos_iff.2 hne
  have hlen := h.len
  have hpk := pickN_lt Wn hpos
  obtain ⟨g', cap, rfl, hrowI⟩ : ∃ g' cap, v = .slice (some ⟨g', 0, none⟩) Ds.length cap ∧ (∀ k (hk : k < Ds.length), w.cell? ⟨g', k * 2, none⟩ = some (ptrV Ds[k].B.sb) ∧ w.cell? ⟨g', k * 2 + 1, none⟩ = some (ptrV Ds[k].b)) := by
    rcases row_cells h.row with ⟨h3, h4⟩ | ⟨g', cap, h3, h4, _, h5, h6, h7⟩
    · omega
    · exact ⟨g', cap, h3, fun k hk => ⟨h7 _ _ (flatP_get Ds k hk).1, h7 _ _ (flatP_get Ds k hk).2⟩⟩
  have hcap : Ds.length ≤ cap ∧ cap ≤ maxLen ∧ g' < w.heap.size := by
    rcases row_cells h.row with ⟨h3, h4⟩ | ⟨g2, cap2, h3, h4, _, h5, h6, h7⟩
    · omega
    · simp only [Value.slice.injEq, Option.some.injEq, Addr.mk.injEq] at h3
      obtain ⟨⟨rfl, _⟩, _, rfl⟩ := h3
      exact ⟨h5, h6, h4⟩
  obtain ⟨cp0, cp1⟩ := hrowI _ hpk
  have cg : w.cell? ⟨g, 0, none⟩ = some (.slice (some ⟨g', 0, none⟩) Ds.length cap) := (blk_cell h.blk 0).trans rfl
  have CP : Hid (∀ W, Calls Tryz.prog 41 #[.int .i64 Wn, .int .i64 (Ds.length : Int)] W fun e w' => e = .returned (.int .i64 (pickN Wn Ds.length : Int)) ∧ w' = W) := fun W => pick_any Wn Ds.length W hW hpos (by omega)
  have HL : Hid _ := h
  have hgl : g < w.heap.size := (Array.getElem?_eq_some_iff.1 h.blk).1
  have i1 : ¬ K = 1 := by omega
  have i2 : ¬ K < 2 := by omega
  have i3 : ¬ 11 < K := by omega
  have i4 : ¬ (Ds.length : Int) = 0 := by omega
  have hi : (pickN Wn Ds.length : Int) < (Ds.length : Int) := by omega
  clear h hrowI
  generalize hkk : pickN Wn Ds.length = kk at *
  go_enter Tryz.func42, Tryz.ntmps42
  go_wp2_with fail
  go_cut [5] (fun pp wc => pp = ptrV (w.heap.size + 1) ∧ Below (w.heap.size + 1) (w.alloc (.cells #[.int .i64 K, .int .i64 Wn, .int .i64 N, .int .i64 M, SV S, SV T, L] 78)) wc ∧ wc.heap[w.heap.size + 1]? = some (.cells #[ptrV Ds[kk].B.sb, ptrV Ds[kk].b] 143 (0, 0)))
  case first =>
    go_region_held3 (fun W : World => W.cell? ⟨g, 0, none⟩ = some (.slice (some ⟨g', 0, none⟩) Ds.length cap) ∧ W.cell? ⟨w.heap.size, 1, none⟩ = some (.int .i64 Wn) ∧ W.cell? ⟨g', kk * 2, none⟩ = some (ptrV Ds[kk].B.sb) ∧ W.cell? ⟨g', kk * 2 + 1, none⟩ = some (ptrV Ds[kk].b)) (go_keep) (first | (go_at_call 41; refine (CP.out _).mono ?_; rintro e w2 ⟨rfl, rfl⟩))
    all_goals go_wp2_with fail
    all_goals go_meet
    all_goals
      refine ⟨rfl, ⟨rfl, rfl, rfl, by simp, fun k hk => ?_⟩, ?_⟩
      · exact Below.heap_alloc (w.alloc _) _ _ (by simp; omega)
      · have := heap_alloc_new (w.alloc (.cells #[.int .i64 K, .int .i64 Wn, .int .i64 N, .int .i64 M, SV S, SV T, L] 78)) (.cells #[ptrV Ds[kk].B.sb, ptrV Ds[kk].b] 143)
        rw [show (w.alloc (.cells #[.int .i64 K, .int .i64 Wn, .int .i64 N, .int .i64 M, SV S, SV T, L] 78)).heap.size = w.heap.size + 1 from by simp] at this
        exact this
  case rest =>
    obtain ⟨rfl, hbc, hpc⟩ := hcut
    have hoc : wc.heap[w.heap.size]? = some (.cells #[.int .i64 K, .int .i64 Wn, .int .i64 N, .int .i64 M, SV S, SV T, L] 78 (0, 0)) := (hbc.block _ (by omega)).trans (heap_alloc_new w _)
    have hbw : Below w.heap.size w wc := ((Below.refl w.heap.size w).alloc (Nat.le_refl _) _).trans (hbc.mono (by omega))
    have hLc := HL.out.below hbw
    have hDk := hLc.duos _ (List.getElem_mem hpk)
    have hmk : Ds[kk].r.made < 4611686018427387904 := by have := hLc.made _ (List.getElem_mem hpk); omega
    have p0 : wc.cell? ⟨w.heap.size + 1, 0, none⟩ = some (ptrV Ds[kk].B.sb) := (blk_cell hpc 0).trans rfl
    have p1 : wc.cell? ⟨w.heap.size + 1, 1, none⟩ = some (ptrV Ds[kk].b) := (blk_cell hpc 1).trans rfl
    have o0 : wc.cell? ⟨w.heap.size, 0, none⟩ = some (.int .i64 K) := (blk_cell hoc 0).trans rfl
    have o1 : wc.cell? ⟨w.heap.size, 1, none⟩ = some (.int .i64 Wn) := (blk_cell hoc 1).trans rfl
    have o2 : wc.cell? ⟨w.heap.size, 2, none⟩ = some (.int .i64 N) := (blk_cell hoc 2).trans rfl
    have o3 : wc.cell? ⟨w.heap.size, 3, none⟩ = some (.int .i64 M) := (blk_cell hoc 3).trans rfl
    have o4 : wc.cell? ⟨w.heap.size, 4, none⟩ = some (SV S) := (blk_cell hoc 4).trans rfl
    have o5 : wc.cell? ⟨w.heap.size, 5, none⟩ = some (SV T) := (blk_cell hoc 5).trans rfl
    have o6 : wc.cell? ⟨w.heap.size, 6, none⟩ = some L := (blk_cell hoc 6).trans rfl
    have HLc : Hid _ := hLc
    have HDk : Hid _ := hDk
    have HBW : Hid _ := hbw
    have HASK : Hid _ := hask
    clear hLc hDk hbw hbc hpc hoc cg cp0 cp1 hask
    have fin : Hid (∀ w3 D', DuoAt w3 D' → DuoStep wc Ds[kk] w3 D' → LawOut base w g m (.returned (.bool true)) w3) := by
      intro w3 D' hD' hS'
      obtain ⟨h3, h4⟩ := HLc.out.turn hpk hD' hS'
      refine ⟨rfl, _, _, h3, ?_, (Below.mono HBW.out (by have := HL.out.gb; omega)).trans h4⟩
      intro e; have := congrArg List.length e; rw [List.length_set] at this; simp at this; exact hne this
    by_cases h6 : K ≤ 6
    · have C : Hid (Calls Tryz.prog 69 #[pairV Ds[kk], opV K Wn N M S T L] wc fun e w' => EditOut wc Ds[kk] e w') := edits_any Ds[kk] K Wn N M S T L wc HDk.out hmk hS hT
      go_wp2_with fail
      refine C.out.mono ?_
      rintro e w3 ⟨rfl, D', hD', hS'⟩
      have R := Hid.mk' (fin.out w3 D' hD' hS')
      clear hD' hS' C
      go_wp2
      go_ret
      exact R.out
    · have C : Hid (Calls Tryz.prog 70 #[pairV Ds[kk], opV K Wn N M S T L] wc fun e w' => EditOut wc Ds[kk] e w') := HASK.out (by omega) h2 Ds[kk] wc HDk.out hmk HLc.out.mx
      go_wp2_with fail
      refine C.out.mono ?_
      rintro e w3 ⟨rfl, D', hD', hS'⟩
      have R := Hid.mk' (fin.out w3 D' hD' hS')
      clear hD' hS' C
      go_wp2
      go_ret
      exact R.out

set_option maxHeartbeats 2000000 in
set_option maxRecDepth 50000 in
theorem step_made (base : Nat) (g : Nat) (v : Value) (Ds : List Duo) (m : Nat) (Wn N M : Int) (S T : Str) (L : Value) (w : World) (h : LawAt base w g v Ds m) (hne : Ds ≠ []) (hm : m < 4000000000000) :
    Calls Tryz.prog 42 #[ptrV g, opV 1 Wn N M S T L] w fun e w' => LawOut base w g m e w' := by
  obtain ⟨w1, hw1⟩ : ∃ w1 : World, w1 = w.alloc (.cells #[.int .i64 1, .int .i64 Wn, .int .i64 N, .int .i64 M, SV S, SV T, L] 78) := ⟨_, rfl⟩
  have hb1 : Below w.heap.size w w1 := by rw [hw1]; exact (Below.refl _ _).alloc (Nat.le_refl _) _
  have hL1 := h.below hb1
  have hgb := h.gb
  have hgl : g < w.heap.size := (Array.getElem?_eq_some_iff.1 h.blk).1
  by_cases hN : N < 1 ∨ 200 < N
  · have C : Hid (Calls Tryz.prog 40 #[ptrV g, .int .i64 N] w1 fun e w' => e = .returned (.bool true) ∧ w' = w1) := made_no g N w1 hN
    have R : Hid (LawOut base w g m (.returned (.bool true)) w1) := ⟨rfl, v, Ds, hL1.mono (Nat.le_succ _), hne, hb1.mono (by omega)⟩
    have HW : Hid _ := hw1
    clear h hb1 hL1 hN hw1
    go_enter Tryz.func42, Tryz.ntmps42
    go_wp2_with fail
    rw [← HW.out]
    refine C.out.mono ?_
    rintro e w2 ⟨rfl, rfl⟩
    clear HW C
    go_wp2
    go_ret
    exact R.out
  · obtain ⟨c, rfl⟩ : ∃ c : Nat, N = (c : Int) := ⟨N.toNat, by omega⟩
    have C : Hid (Calls Tryz.prog 40 #[ptrV g, .int .i64 (c : Int)] w1 fun e w' => MadeOut base w1 g Ds m e w') := made_yes base g v Ds m c w1 hL1 (by omega) (by omega) (by have := h.len; omega)
    have HB1 : Hid (Below base w w1) := hb1.mono (by omega)
    have HW : Hid _ := hw1
    clear h hb1 hL1 hN hw1
    go_enter Tryz.func42, Tryz.ntmps42
    go_wp2_with fail
    rw [← HW.out]
    refine C.out.mono ?_
    rintro e w2 ⟨rfl, v', D, hL2, hb2⟩
    have R : Hid (LawOut base w g m (.returned (.bool true)) w2) := ⟨rfl, v', _, hL2, by simp, HB1.out.trans hb2⟩
    clear hL2 hb2 C HW
    go_wp2
    go_ret
    exact R.out

set_option maxHeartbeats 2000000 in
set_option maxRecDepth 50000 in
theorem step_none (base : Nat) (g : Nat) (v : Value) (Ds : List Duo) (m : Nat) (K Wn N M : Int) (S T : Str) (L : Value) (w : World) (h : LawAt base w g v Ds m) (hne : Ds ≠ []) (h1 : K ≠ 1) (h2 : K < 2 ∨ 11 < K) :
    Calls Tryz.prog 42 #[ptrV g, opV K Wn N M S T L] w fun e w' => LawOut base w g m e w' := by
  have hb1 : Below w.heap.size w (w.alloc (.cells #[.int .i64 K, .int .i64 Wn, .int .i64 N, .int .i64 M, SV S, SV T, L] 78)) := (Below.refl _ _).alloc (Nat.le_refl _) _
  have hgb := h.gb
  have hgl : g < w.heap.size := (Array.getElem?_eq_some_iff.1 h.blk).1
  have R : Hid (LawOut base w g m (.returned (.bool true)) (w.alloc (.cells #[.int .i64 K, .int .i64 Wn, .int .i64 N, .int .i64 M, SV S, SV T, L] 78))) := ⟨rfl, v, Ds, (h.below hb1).mono (Nat.le_succ _), hne, hb1.mono (by omega)⟩
  have hpos : 0 < Ds.length := List.length_pos_iff.2 hne
  have hlen := h.len
  obtain ⟨g', cap, rfl⟩ : ∃ g' cap, v = .slice (some ⟨g', 0, none⟩) Ds.length cap := by
    rcases row_cells h.row with ⟨h3, h4⟩ | ⟨g', cap, h3, h4, _, h5, h6, h7⟩
    · omega
    · exact ⟨g', cap, h3⟩
  have cg : w.cell? ⟨g, 0, none⟩ = some (.slice (some ⟨g', 0, none⟩) Ds.length cap) := (blk_cell h.blk 0).trans rfl
  have i4 : ¬ (Ds.length : Int) = 0 := by omega
  clear h hb1
  by_cases h3 : K < 2
  · clear h2
    go_enter Tryz.func42, Tryz.ntmps42
    go_wp2
    go_ret
    exact R.out
  · have h4 : 11 < K := by omega
    clear h2
    go_enter Tryz.func42, Tryz.ntmps42
    go_wp2
    go_ret
    exact R.out

theorem step_any (base : Nat) (g : Nat) (v : Value) (Ds : List Duo) (m : Nat) (K Wn N M : Int) (S T : Str) (L : Value) (w : World) (h : LawAt base w g v Ds m) (hne : Ds ≠ []) (hm : m < 4000000000000) (hW : InI Wn) (hS : S.length + 1 < maxLen) (hT : T.length + 1 < maxLen) (hask : AsksOk K Wn N M S T L) :
    Calls Tryz.prog 42 #[ptrV g, opV K Wn N M S T L] w fun e w' => LawOut base w g m e w' := by
  by_cases h1 : K = 1
  · subst h1; exact step_made base g v Ds m Wn N M S T L w h hne hm
  · by_cases h2 : K < 2 ∨ 11 < K
    · exact step_none base g v Ds m K Wn N M S T L w h hne h1 h2
    · exact step_go base g v Ds m K Wn N M S T L w h hne hm hW hS hT (by omega) (by omega) hask

end Go.Proofs.YtdcbgfhkfmohiaaGreatDoor

/- The law's plays. -/
namespace Go.Proofs.YtdcbgfhkfmohiaaGreatDoor
open Go.RowKit

structure OpD where
  K : Int
  W : Int
  N : Int
  M : Int
  S : Str
  T : Str
  L : Value

def OpD.cells (o : OpD) : List Value := [.int .i64 o.K, .int .i64 o.W, .int .i64 o.N, .int .i64 o.M, SV o.S, SV o.T, o.L]
structure OpD.Ok (o : OpD) : Prop where
  w : InI o.W
  s : o.S.length + 1 < maxLen
  t : o.T.length + 1 < maxLen

theorem add_block (a : Addr) (n : Nat) : (a.add n).block = a.block := by unfold Addr.add; split <;> rfl

theorem Tryz.sizeOp : (Tryz.prog.info? 78).map (·.size) = some 7 := by kernel_rfl

theorem law_start {w w1 : World} (hm : MaxOk w) (hb : Below w.heap.size w w1) (h : w1.heap[w.heap.size]? = some (.cells #[.slice none 0 0] 75 (0, 0))) : LawAt w.heap.size w1 w.heap.size (.slice none 0 0) [] 0 :=
  ⟨h, World.ownsRow_nil _ _ _ _, by simp, by simp, by simp, Nat.le_refl _, by simp, by simp, hm.later hb, hm.lt⟩

theorem LawAt.slice {base : Nat} {w : World} {g : Nat} {v : Value} {Ds : List Duo} {m : Nat} (h : LawAt base w g v Ds m) (hne : Ds ≠ []) : ∃ g' cap, v = .slice (some ⟨g', 0, none⟩) Ds.length cap := by
  have hpos : 0 < Ds.length := List.length_pos_iff.2 hne
  rcases row_cells h.row with ⟨h3, h4⟩ | ⟨g', cap, h3, h4, _, h5, h6, h7⟩
  · omega
  · exact ⟨g', cap, h3⟩

set_option maxHeartbeats 4000000 in
set_option maxRecDepth 50000 in
theorem plays_some (a : Addr) (len cap : Nat) (O : Nat → OpD) (c hi : Int) (w : World) (hmx : MaxOk w) (hO : ∀ i, i < len → ∀ j v, (O i).cells[j]? = some v → w.cell? ((a.add (i * 7)).add j) = some v) (hbl : 0 < len → a.block < w.heap.size)
    (hok : ∀ i, i < len → (O i).Ok) (hlen : len ≤ 2000000000000) (hc : InI c) (hask : ∀ i, i < len → (O i).K ≤ hi → AsksOk (O i).K (O i).W (O i).N (O i).M (O i).S (O i).T (O i).L) :
    Calls Tryz.prog 13 #[.slice (some a) len cap, .int .i64 c, .int .i64 hi] w fun e w' => e = .returned (.bool true) ∧ Below w.heap.size w w' := by
  have hpk := pickN_lt c (n := 200) (by omega)
  have CP : Hid (∀ W, Calls Tryz.prog 41 #[.int .i64 c, .int .i64 200] W fun e w' => e = .returned (.int .i64 (pickN c 200 : Int)) ∧ w' = W) := fun W => pick_any c 200 W hc (by omega) (by omega)
  have HO : Hid _ := hO
  have HOK : Hid _ := hok
  have HASK : Hid _ := hask
  clear hO hok hask
  obtain ⟨w1, hw1⟩ : ∃ w1 : World, w1 = w.alloc (.cells #[.slice none 0 0] 75) := ⟨_, rfl⟩
  have hL1 : LawAt w.heap.size w1 w.heap.size (.slice none 0 0) [] 0 := law_start hmx (by rw [hw1]; exact (Below.refl _ _).alloc (Nat.le_refl _) _) (by rw [hw1]; exact heap_alloc_new _ _)
  have HB1 : Hid (Below w.heap.size w w1) := by rw [Hid, hw1]; exact (Below.refl _ _).alloc (Nat.le_refl _) _
  have CM : Hid (Calls Tryz.prog 40 #[ptrV w.heap.size, .int .i64 ((pickN c 200 + 1 : Nat) : Int)] w1 fun e w' => MadeOut w.heap.size w1 w.heap.size [] 0 e w') := made_yes w.heap.size w.heap.size (.slice none 0 0) [] 0 (pickN c 200 + 1) w1 hL1 (by omega) (by omega) (by simp)
  have HW1 : Hid _ := hw1
  clear hL1 hw1
  generalize pickN c 200 = pk at *
  go_enter Tryz.func13, Tryz.ntmps13
  go_wp2_with fail
  refine (CP.out _).mono ?_
  rintro e w2 ⟨rfl, rfl⟩
  go_wp2_with fail
  rw [← HW1.out, show (1 + (pk : Int)) = ((pk + 1 : Nat) : Int) from by omega]
  refine CM.out.mono ?_
  rintro e w3 ⟨rfl, v', D, hL3, hb3⟩
  rw [List.nil_append] at hL3
  obtain ⟨g3, cap3, rfl⟩ := hL3.slice (by simp)
  have cg3 : w3.cell? ⟨w.heap.size, 0, none⟩ = some (.slice (some ⟨g3, 0, none⟩) 1 cap3) := (blk_cell hL3.blk 0).trans rfl
  have HL3 : Hid _ := hL3
  have HB3 : Hid (Below w.heap.size w w3) := HB1.out.trans hb3
  clear hL3 hb3 CM HW1 HB1 CP
  go_wp2
  go_loopw [9] (fun i wr => ∃ (k : Nat) (v : Value) (Ds : List Duo), k ≤ len ∧ i = .int .i64 k ∧ LawAt w.heap.size wr w.heap.size v Ds (k + 1) ∧ Ds ≠ [] ∧ Below w.heap.size w wr) (fun i _ => len - (intOf i).toNat)
  case atStart => exact ⟨0, _, _, Nat.zero_le _, rfl, HL3.out, by simp, HB3.out⟩
  case round =>
    obtain ⟨k, v, Ds, hk, rfl, hL, hne, hb⟩ := hrel
    by_cases hlt : k < len
    · have hidx : (k : Int) < (len : Int) := by omega
      have hcell := HO.out k hlt
      have hw := fun j v hv => (hb.cell (p := (a.add (k * 7)).add j) (by rw [add_block, add_block]; exact hbl (by omega))).trans (hcell j v hv)
      have HWc : Hid (∀ j v, (O k).cells[j]? = some v → wr.cell? ((a.add (k * 7)).add j) = some v) := hw
      have hc0 : wr.cell? (a.add (k * 7)) = some (.int .i64 (O k).K) := by have := hw 0 _ rfl; simpa [Addr.add] using this
      have hOk := HOK.out k hlt
      have hsz : (Tryz.prog.info? 78).map (·.size) = some (O k).cells.length := Tryz.sizeOp
      have HSZ : Hid _ := hsz
      by_cases hK : (O k).K ≤ hi
      · have hAs := HASK.out k hlt hK
        have C : Hid (Calls Tryz.prog 42 #[ptrV w.heap.size, .agg (O k).cells.toArray] wr fun e w' => LawOut w.heap.size wr w.heap.size (k + 1) e w') := step_any w.heap.size w.heap.size v Ds (k + 1) (O k).K (O k).W (O k).N (O k).M (O k).S (O k).T (O k).L wr hL hne (by omega) hOk.w hOk.s hOk.t hAs
        have HB : Hid _ := hb
        clear hcell hw hAs hL hb hOk hsz cg3 HL3
        go_wp2_with (first | (refine wpList_load_cells rfl 78 (.tmp 44) rfl (a.add (k * 7)) rfl (O k).cells _ HWc.out Tryz.underlying78 rfl HSZ.out ?_; generalize hcs : (O k).cells.toArray = CS at *) | (go_at_call 42; refine C.out.mono ?_; rintro e w5 ⟨rfl, v5, D5, hL5, hne5, hb5⟩; have HL5 := Hid.mk' hL5; have HB5 := Hid.mk' hb5; clear hL5 hb5))
        go_round
        case rel => exact ⟨k + 1, v5, D5, by omega, by go_num, HL5.out, hne5, HB.out.trans HB5.out⟩
        case measure => simp [intOf]; omega
      · have HL : Hid _ := hL
        have HB : Hid _ := hb
        clear hcell hw hL hb hOk hsz cg3 HL3
        go_wp2
        go_round
        case rel => exact ⟨k + 1, v, Ds, by omega, by go_num, HL.out.mono (by omega), hne, HB.out⟩
        case measure => simp [intOf]; omega
    · have HB : Hid _ := hb
      clear hL hb cg3 HL3
      go_wp2
      go_ret
      exact ⟨rfl, HB.out⟩

set_option maxHeartbeats 4000000 in
set_option maxRecDepth 50000 in
theorem plays_nil (c hi : Int) (w : World) (hmx : MaxOk w) (hc : InI c) : Calls Tryz.prog 13 #[.slice none 0 0, .int .i64 c, .int .i64 hi] w fun e w' => e = .returned (.bool true) ∧ Below w.heap.size w w' := by
  have hpk := pickN_lt c (n := 200) (by omega)
  have CP : Hid (∀ W, Calls Tryz.prog 41 #[.int .i64 c, .int .i64 200] W fun e w' => e = .returned (.int .i64 (pickN c 200 : Int)) ∧ w' = W) := fun W => pick_any c 200 W hc (by omega) (by omega)
  obtain ⟨w1, hw1⟩ : ∃ w1 : World, w1 = w.alloc (.cells #[.slice none 0 0] 75) := ⟨_, rfl⟩
  have hL1 : LawAt w.heap.size w1 w.heap.size (.slice none 0 0) [] 0 := law_start hmx (by rw [hw1]; exact (Below.refl _ _).alloc (Nat.le_refl _) _) (by rw [hw1]; exact heap_alloc_new _ _)
  have HB1 : Hid (Below w.heap.size w w1) := by rw [Hid, hw1]; exact (Below.refl _ _).alloc (Nat.le_refl _) _
  have CM : Hid (Calls Tryz.prog 40 #[ptrV w.heap.size, .int .i64 ((pickN c 200 + 1 : Nat) : Int)] w1 fun e w' => MadeOut w.heap.size w1 w.heap.size [] 0 e w') := made_yes w.heap.size w.heap.size (.slice none 0 0) [] 0 (pickN c 200 + 1) w1 hL1 (by omega) (by omega) (by simp)
  have HW1 : Hid _ := hw1
  clear hL1 hw1
  generalize pickN c 200 = pk at *
  go_enter Tryz.func13, Tryz.ntmps13
  go_wp2_with fail
  refine (CP.out _).mono ?_
  rintro e w2 ⟨rfl, rfl⟩
  go_wp2_with fail
  rw [← HW1.out, show (1 + (pk : Int)) = ((pk + 1 : Nat) : Int) from by omega]
  refine CM.out.mono ?_
  rintro e w3 ⟨rfl, v', D, hL3, hb3⟩
  rw [List.nil_append] at hL3
  obtain ⟨g3, cap3, rfl⟩ := hL3.slice (by simp)
  have cg3 : w3.cell? ⟨w.heap.size, 0, none⟩ = some (.slice (some ⟨g3, 0, none⟩) 1 cap3) := (blk_cell hL3.blk 0).trans rfl
  have HL3 : Hid _ := hL3
  have HB3 : Hid (Below w.heap.size w w3) := HB1.out.trans hb3
  clear hL3 hb3 CM HW1 HB1 CP
  go_wp2
  go_loopw [9] (fun i wr => i = .int .i64 0 ∧ Below w.heap.size w wr) (fun _ _ => 0)
  case atStart => exact ⟨rfl, HB3.out⟩
  case round =>
    obtain ⟨rfl, hb⟩ := hrel
    have HB : Hid _ := hb
    clear hb cg3 HL3
    go_wp2
    go_ret
    exact ⟨rfl, HB.out⟩

theorem edits_law {v0 : Value} {c : Int} {w : World} (h : Calls Tryz.prog 13 #[v0, .int .i64 c, .int .i64 6] w fun e w' => e = .returned (.bool true) ∧ Below w.heap.size w w') :
    Calls Tryz.prog 3 #[v0, .int .i64 c] w fun e w' => e = .returned (.bool true) ∧ Below w.heap.size w w' := by
  have C : Hid _ := h
  clear h
  go_enter Tryz.func3, Tryz.ntmps3
  go_wp2_with fail
  refine Calls.mono (show Calls _ _ _ _ _ from C.out) ?_
  rintro e w1 ⟨rfl, hb⟩
  have HB : Hid _ := hb
  clear hb C
  go_wp2
  go_ret
  exact ⟨rfl, HB.out⟩
theorem diffs_law {v0 : Value} {c : Int} {w : World} (h : Calls Tryz.prog 13 #[v0, .int .i64 c, .int .i64 8] w fun e w' => e = .returned (.bool true) ∧ Below w.heap.size w w') :
    Calls Tryz.prog 4 #[v0, .int .i64 c] w fun e w' => e = .returned (.bool true) ∧ Below w.heap.size w w' := by
  have C : Hid _ := h
  clear h
  go_enter Tryz.func4, Tryz.ntmps4
  go_wp2_with fail
  refine Calls.mono (show Calls _ _ _ _ _ from C.out) ?_
  rintro e w1 ⟨rfl, hb⟩
  have HB : Hid _ := hb
  clear hb C
  go_wp2
  go_ret
  exact ⟨rfl, HB.out⟩

end Go.Proofs.YtdcbgfhkfmohiaaGreatDoor

/- The arguments opened; the contract of Edits. -/
namespace Go.Proofs.YtdcbgfhkfmohiaaGreatDoor
open Go.ChangeShapes Go.WideShapes Go.ChangeAt Go.RowKit Go.Deep

theorem max_shaped {W : World} (h : W.ShapedOpen Tryz.prog) : MaxOk W :=
  Go.Proofs.cell_of_shapedOpen_int (zero := #[.int .i64 0]) (t := 3) h (of_decide_eq_true (by kernel_rfl)) (by kernel_rfl) rfl (by kernel_rfl) (by kernel_rfl) Tryz.underlying3
theorem Tryz.laidOut : laidOutB Tryz.prog = true := by kernel_rfl
theorem Tryz.cellsOp : Tryz.prog.cellsOf 78 = 7 := by kernel_rfl
theorem Tryz.cellsInt : Tryz.prog.cellsOf 3 = 1 := by kernel_rfl
theorem Tryz.cellsStr : Tryz.prog.cellsOf 9 = 1 := by kernel_rfl
theorem Tryz.cellsStrs : Tryz.prog.cellsOf 48 = 1 := by kernel_rfl
theorem Tryz.bytesOp : Tryz.prog.bytesOf 78 = 88 := by kernel_rfl

theorem weights_slice {H : Type} {P : Program} {t e : TypeId} {elems spare : List (DataW H)} (hu : P.underlying t = some (.slice e)) {d : DataW H} (hd : d ∈ elems) {n : Nat} (hn : n ∈ d.weights P e) : n ∈ (DataW.slice elems spare).weights P t := by
  have h1 : ∀ l : List (DataW H), d ∈ l → n ∈ DataW.weightsAll P e l := by
    intro l
    induction l with
    | nil => intro h; simp at h
    | cons a l ih =>
      intro h
      simp only [DataW.weightsAll, List.mem_append]
      simp only [List.mem_cons] at h
      rcases h with rfl | h
      · exact .inl hn
      · exact .inr (ih h)
  simp only [DataW.weights, hu, List.mem_cons, List.mem_append]
  exact .inr (.inl (h1 elems hd))

theorem wf_in {n : Int} (h : (Lit.int .i64 n).wf = true) : InI n := by
  simp only [Lit.wf, Bool.and_eq_true, decide_eq_true_eq] at h
  have h1 : IntKind.i64.min = -9223372036854775808 := by decide
  have h2 : IntKind.i64.max = 9223372036854775807 := by decide
  rw [h1, h2] at h
  unfold InI; omega

/-- One op, opened. -/
theorem seven {α : Type} {l : List α} (h : l.length = 7) : ∃ a b c d e f g, l = [a, b, c, d, e, f, g] := by
  obtain ⟨a, l, rfl⟩ := List.exists_cons_of_length_pos (by omega : 0 < l.length)
  simp only [List.length_cons] at h
  obtain ⟨b, l, rfl⟩ := List.exists_cons_of_length_pos (by omega : 0 < l.length)
  simp only [List.length_cons] at h
  obtain ⟨c, l, rfl⟩ := List.exists_cons_of_length_pos (by omega : 0 < l.length)
  simp only [List.length_cons] at h
  obtain ⟨d, l, rfl⟩ := List.exists_cons_of_length_pos (by omega : 0 < l.length)
  simp only [List.length_cons] at h
  obtain ⟨e, l, rfl⟩ := List.exists_cons_of_length_pos (by omega : 0 < l.length)
  simp only [List.length_cons] at h
  obtain ⟨f, l, rfl⟩ := List.exists_cons_of_length_pos (by omega : 0 < l.length)
  simp only [List.length_cons] at h
  obtain ⟨g, l, rfl⟩ := List.exists_cons_of_length_pos (by omega : 0 < l.length)
  simp only [List.length_cons] at h
  obtain rfl : l = [] := List.eq_nil_of_length_eq_zero (by omega)
  exact ⟨a, b, c, d, e, f, g, rfl⟩

theorem open_op {H : Type} {enc : TypeId × Value → H} {W : World} {sp : Nat → Bool} {held : Bool} {fuel : Nat} {cs : List Value} {x : DataW H × List MemPlace} (h : DataW.trod enc Tryz.prog W 0 sp held fuel 78 cs = some x) :
    ∃ o : OpD, cs = o.cells ∧ InI o.W ∧ (o.S.length ∈ x.1.weights Tryz.prog 78) ∧ (o.T.length ∈ x.1.weights Tryz.prog 78) := by
  obtain ⟨xs, n, rfl, rfl, hl, hxl, hf⟩ := DataW.trod_struct Tryz.underlying78 h
  rw [Tryz.cellsOp] at hl
  obtain ⟨c0, c1, c2, c3, c4, c5, c6, rfl⟩ := seven hl
  obtain ⟨x0, x1, x2, x3, x4, x5, x6, rfl⟩ := seven (show xs.length = 7 from hxl)
  have f0 : DataW.trod enc Tryz.prog W 0 sp held n 3 (([c0, c1, c2, c3, c4, c5, c6].drop 0).take (Tryz.prog.cellsOf 3)) = some x0 := hf 0 _ rfl
  have f1 : DataW.trod enc Tryz.prog W 0 sp held n 3 (([c0, c1, c2, c3, c4, c5, c6].drop 1).take (Tryz.prog.cellsOf 3)) = some x1 := hf 1 _ rfl
  have f2 : DataW.trod enc Tryz.prog W 0 sp held n 3 (([c0, c1, c2, c3, c4, c5, c6].drop 2).take (Tryz.prog.cellsOf 3)) = some x2 := hf 2 _ rfl
  have f3 : DataW.trod enc Tryz.prog W 0 sp held n 3 (([c0, c1, c2, c3, c4, c5, c6].drop 3).take (Tryz.prog.cellsOf 3)) = some x3 := hf 3 _ rfl
  have f4 : DataW.trod enc Tryz.prog W 0 sp held n 9 (([c0, c1, c2, c3, c4, c5, c6].drop 4).take (Tryz.prog.cellsOf 9)) = some x4 := hf 4 _ rfl
  have f5 : DataW.trod enc Tryz.prog W 0 sp held n 9 (([c0, c1, c2, c3, c4, c5, c6].drop 5).take (Tryz.prog.cellsOf 9)) = some x5 := hf 5 _ rfl
  rw [Tryz.cellsInt] at f0 f1 f2 f3
  rw [Tryz.cellsStr] at f4 f5
  obtain ⟨n0, e0, _, _⟩ := DataW.trod_int Tryz.underlying3 f0
  obtain ⟨n1, e1, _, w1⟩ := DataW.trod_int Tryz.underlying3 f1
  obtain ⟨n2, e2, _, _⟩ := DataW.trod_int Tryz.underlying3 f2
  obtain ⟨n3, e3, _, _⟩ := DataW.trod_int Tryz.underlying3 f3
  obtain ⟨s4, e4, y4, _⟩ := DataW.trod_string Tryz.underlying9 f4
  obtain ⟨s5, e5, y5, _⟩ := DataW.trod_string Tryz.underlying9 f5
  simp at e0 e1 e2 e3 e4 e5
  subst e0 e1 e2 e3 e4 e5 y4 y5
  refine ⟨⟨n0, n1, n2, n3, s4.data.toList, s5.data.toList, c6⟩, ?_, wf_in w1, ?_, ?_⟩
  · simp [OpD.cells]
  · simp [DataW.weights, Tryz.underlying78, DataW.weightsEach]
  · simp [DataW.weights, Tryz.underlying78, DataW.weightsEach]

theorem weights_in {H : Type} {P : Program} {d1 d2 : DataW H} {t1 t2 : TypeId} (h : (DataW.weightsEach P [t1, t2] [d1, d2]).all (· ≤ reachBytes) = true) {n : Nat} (hn : n ∈ d1.weights P t1) : n ≤ 140737488351232 := by
  have := List.all_eq_true.1 h n (by simp only [DataW.weightsEach, List.mem_append]; exact .inl hn)
  have h2 : n ≤ reachBytes := by simpa using this
  exact h2

set_option maxHeartbeats 1000000 in
set_option maxRecDepth 100000 in
/-- For every argument: what plays asks. -/
theorem open_script {H : Type} {enc : TypeId × Value → H} {W : World} {base : Nat} {v0 v1 : Value} {d0 d1 : DataW H} {p0 p1 : List MemPlace} (hv0 : Value.okWide Tryz.prog W .any base 22 v0) (hv1 : Value.okWide Tryz.prog W .any base 3 v1)
    (h0 : DataW.Trod enc Tryz.prog W 0 (fun _ => true) true 22 v0 d0 p0) (h1 : DataW.Trod enc Tryz.prog W 0 (fun _ => true) true 3 v1 d1 p1)
    (hsz : (DataW.weightsEach Tryz.prog [22, 3] [d0, d1]).all (· ≤ reachBytes) = true) :
    ∃ c : Int, v1 = .int .i64 c ∧ InI c ∧ (v0 = .slice none 0 0 ∨ ∃ (a : Addr) (len cap : Nat) (O : Nat → OpD), v0 = .slice (some a) len cap ∧ (∀ i, i < len → ∀ j v, (O i).cells[j]? = some v → W.cell? ((a.add (i * 7)).add j) = some v) ∧ (0 < len → a.block < W.heap.size) ∧ (∀ i, i < len → (O i).Ok) ∧ len ≤ 2000000000000) := by
  obtain ⟨c, rfl, rfl, _, hw⟩ := open_int Tryz.underlying3 hv1 h1
  refine ⟨c, rfl, wf_in hw, ?_⟩
  obtain ⟨a0, len, cap, rfl⟩ := okWide_slice Tryz.underlying22 hv0
  obtain ⟨fuel, hf⟩ := h0
  rcases open_slice Tryz.underlying22 hf with ⟨hcs, hx⟩ | ⟨a, len', cap', m, n, D, Pl, hcs, _, hl, hm, hmm, hx, hel⟩
  · left
    simpa [Value.cells] using hcs
  · right
    simp [Value.cells] at hcs
    obtain ⟨rfl, rfl, rfl⟩ := hcs
    simp only [Prod.mk.injEq] at hx
    obtain ⟨rfl, rfl⟩ := hx
    simp only [if_true] at hmm
    subst hmm
    have hs := sized_slice hsz (j := 0) rfl rfl Tryz.underlying22
    rw [Tryz.bytesOp] at hs
    simp only [List.length_map, List.length_range] at hs
    have hs2 : (len + (m - len)) * 88 ≤ 140737488351232 := hs
    rw [Tryz.cellsOp] at hel
    have each : ∀ i, i < len → ∃ o : OpD, (∀ j v, o.cells[j]? = some v → W.cell? ((a.add (i * 7)).add j) = some v) ∧ o.Ok := by
      intro i hi
      obtain ⟨cs', hc, ht⟩ := hel i (by omega)
      obtain ⟨_, hl7, hcell⟩ := World.cells?_some hc
      obtain ⟨o, rfl, hW, hS, hT⟩ := open_op ht
      have hmem : D i ∈ (List.range len).map D := List.mem_map_of_mem (by simpa using hi)
      have bS := weights_in hsz (weights_slice Tryz.underlying22 hmem hS)
      have bT := weights_in hsz (weights_slice Tryz.underlying22 hmem hT)
      refine ⟨o, fun j v hv => ?_, ⟨hW, by unfold maxLen; omega, by unfold maxLen; omega⟩⟩
      rw [hcell j (by rw [← hl7]; exact (List.getElem?_eq_some_iff.1 hv).1)]; exact hv
    haveI : Inhabited OpD := ⟨⟨0, 0, 0, 0, [], [], .nilIface⟩⟩
    obtain ⟨O, hO⟩ := choose_lt each
    refine ⟨a, len, m, O, rfl, fun i hi => (hO i hi).1, fun hpos => ?_, fun i hi => (hO i hi).2, by omega⟩
    have := World.block_lt_of_cell? W _ ((hO 0 hpos).1 0 _ rfl)
    rw [add_block, add_block] at this; exact this

set_option maxRecDepth 100000 in
/-- What the walk gives, for every argument and every world. -/
theorem editsContract (H : Type) (enc : TypeId × Value → H) (W : World) (base : Nat) (args : Array Value) (ds gs : List (DataW H)) (before : List MemPlace)
    (hval : ∀ (j : Nat) t v, Tryz.f3.params[j]? = some t → args[j]? = some v → Value.okWide Tryz.prog W .any base t v)
    (hW : DataW.Whole enc Tryz.prog Tryz.f3.params.toList Rows.editsSpec.vars false W args.toList ds gs before)
    (hsz : (DataW.weightsEach Tryz.prog (Tryz.f3.params.toList ++ (OpenSpec.ofChange Rows.editsSpec).bare.plain.varTypes Tryz.prog) (ds ++ gs)).all (· ≤ reachBytes) = true) (hmx : MaxOk W) :
    Calls Tryz.prog 3 args W fun e W' => ∃ v, e = .returned v ∧ Rows.editsSpec.post enc Tryz.prog Tryz.f3 false true false false W args v W' := by
  have hW' := hW
  obtain ⟨p, q, hA0, hV, rfl, hfz, hnd⟩ := hW
  have hA : DataW.TrodAll enc Tryz.prog W 0 (fun _ => true) true Tryz.f3.params.toList args.toList ds p := hA0
  rw [Tryz.params3] at hA hval
  obtain ⟨v0, v1, d0, d1, p0, p1, rfl, rfl, rfl, h0, h1⟩ := trodAll_two hA
  obtain ⟨rfl, rfl⟩ := trodVars_none hV
  have hsz' : (DataW.weightsEach Tryz.prog [22, 3] [d0, d1]).all (· ≤ reachBytes) = true := hsz
  obtain ⟨c, rfl, hc, hv⟩ := open_script (hval 0 22 v0 rfl rfl) (hval 1 3 v1 rfl rfl) h0 h1 hsz'
  clear hA0 hsz
  simp only [List.append_nil] at hW'
  have hlt : ∀ x ∈ p0 ++ p1, x.block < W.heap.size := fun x hx => by simpa using hW'.lt x hx
  have walk : Calls Tryz.prog 3 #[v0, .int .i64 c] W fun e w' => e = .returned (.bool true) ∧ Below W.heap.size W w' := by
    rcases hv with rfl | ⟨a, len, cap, O, rfl, hO, hbl, hok, hlen⟩
    · exact edits_law (plays_nil c 6 W hmx hc)
    · exact edits_law (plays_some a len cap O c 6 W hmx hO hbl hok hlen hc (fun i hi hK h6 => by omega))
  refine walk.mono fun e W' ⟨he, hb⟩ => ?_
  subst he
  exact ⟨_, rfl, ⟨_, _, _, [], _, [], hW', trodAll_mk1 (shut_bool Tryz.underlying4 true), trodAll_mk2 (Below.trod Tryz.laidOut (by kernel_rfl) (of_decide_eq_true (by kernel_rfl)) h0 hb (fun x hx => hlt x (List.mem_append_left _ hx))) (Below.trod Tryz.laidOut (by kernel_rfl) (of_decide_eq_true (by kernel_rfl)) h1 hb (fun x hx => hlt x (List.mem_append_right _ hx))), rfl, hb.frame _, fun h => by cases h⟩⟩

end Go.Proofs.YtdcbgfhkfmohiaaGreatDoor

/- Same, on the document's side: what it says of two trees. -/
namespace Go.Proofs.YtdcbgfhkfmohiaaGreatDoor
open Go.RowKit

/-- The names of a place: none for the root. -/
def placeQ (p : Str) : List Str := if p = [47] then [] else splitL 47 p

theorem okN_free {q : List Str} (h : OkN q) : ∀ x ∈ q, Free x := fun x hx => (name_free (h.2 x hx)).1
theorem join_inj {p q : List Str} (hp : OkN p) (hq : OkN q) (h : joinP p = joinP q) : p = q := by
  rw [← split_join hp.1 (okN_free hp), ← split_join hq.1 (okN_free hq), h]

theorem data_at {es : Ents} {q : List Str} {d : Str} (h : WFE es) (hq : OkN q) (hs : sub (.dir es) q = some (.file d)) : dataAt (toF (filesE es)) (getI (toF (filesE es)) (joinP q)) = d := by
  have hv := (valid_files h).1
  have hf : fileAt (.dir es) q = some d := by unfold fileAt; rw [hs]
  have hm := (mem_root h q d).2 hf
  have hn : ¬ getI (toF (filesE es)) (joinP q) < 0 := fun hc => (get_names hv hq).1 hc _ hm rfl
  obtain ⟨k, hk, hlt⟩ := getI_lt (by omega : 0 ≤ getI (toF (filesE es)) (joinP q))
  have hg : getL (toF (filesE es)) (joinP q) = some k := by
    unfold getI at hk; split at hk
    · rename_i j hj; rw [hj]; congr 1; omega
    · omega
  unfold getL at hg
  rw [List.findIdx?_eq_some_iff_getElem] at hg
  obtain ⟨_, h1, _⟩ := hg
  have hl : k < (filesE es).length := by simpa [toF] using hlt
  have e1 : (toF (filesE es))[k] = (joinP (filesE es)[k].1, (filesE es)[k].2) := by simp [toF]
  rw [e1] at h1
  have h2 : joinP (filesE es)[k].1 = joinP q := by simpa using h1
  have h3 := join_inj (hv _ (List.getElem_mem hl)) hq h2
  have h4 := (mem_root h (filesE es)[k].1 (filesE es)[k].2).1 (List.getElem_mem hl)
  rw [h3, hf] at h4
  unfold dataAt
  rw [hk]
  simp only [Int.toNat_natCast]
  rw [List.getElem?_eq_getElem hlt, e1]
  exact (Option.some.inj h4).symm

theorem in_root {es : Ents} (h : WFE es) : inL (toF (filesE es)) [47] = toF (filesE es) := by
  have hv := (valid_files h).1
  have : ∀ l : List NF, ValidN l → inL (toF l) [47] = toF l := by
    intro l
    induction l with
    | nil => intro _; rfl
    | cons f l ih =>
      intro hl
      have h1 := ih (fun g hg => hl g (by simp [hg]))
      have h2 : belowL (joinP f.1) [47] = joinP f.1 := by unfold belowL; rw [if_pos rfl]
      have h3 : (joinP f.1).isEmpty = false := by
        cases hj : joinP f.1 with
        | cons a r => rfl
        | nil =>
          have hf := hl f (by simp)
          have := split_join hf.1 (okN_free hf)
          rw [hj] at this
          have hm := hf.2 [] (by rw [← this]; decide)
          have := (isNameL_len hm).1
          simp at this
      unfold inL at h1 ⊢
      simp only [toF, List.map_cons, List.flatMap_cons] at h1 ⊢
      rw [h2, h3, h1]
      rfl
  exact this _ hv

theorem get_root {es : Ents} (h : WFE es) : getI (toF (filesE es)) [47] < 0 := by
  have hv := (valid_files h).1
  rw [getI_miss]
  · decide
  · intro j hj
    have hl : j < (filesE es).length := by simpa [toF] using hj
    have e1 : (toF (filesE es))[j] = (joinP (filesE es)[j].1, (filesE es)[j].2) := by simp [toF]
    rw [e1]
    have hf := hv _ (List.getElem_mem hl)
    have hs := split_join hf.1 (okN_free hf)
    simp only [beq_eq_false_iff_ne, ne_eq]
    intro hc
    rw [hc] at hs
    have hm := hf.2 [] (by rw [← hs]; decide)
    have := (isNameL_len hm).1
    simp at this

theorem look_file : ∀ {q : List Str} {t : Tree} {d : Str}, sub t q = some (.file d) → look (some t) q = .atFile := by
  intro q
  induction q with
  | nil => intro t d h; simp only [sub, Option.some.injEq] at h; subst h; simp [look]
  | cons x r ih =>
    intro t d h
    cases t with
    | file e => simp [sub] at h
    | dir es =>
      rw [sub] at h; rw [look]
      cases hf : findE es x with
      | none => rw [hf] at h; simp at h
      | some u => rw [hf] at h; exact ih h
theorem look_dir : ∀ {q : List Str} {t : Tree} {c : Ents}, sub t q = some (.dir c) → look (some t) q = .atDir := by
  intro q
  induction q with
  | nil => intro t d h; simp only [sub, Option.some.injEq] at h; subst h; simp [look]
  | cons x r ih =>
    intro t d h
    cases t with
    | file e => simp [sub] at h
    | dir es =>
      rw [sub] at h; rw [look]
      cases hf : findE es x with
      | none => rw [hf] at h; simp at h
      | some u => rw [hf] at h; exact ih h

/-- What Same answers of two trees at a place. -/
theorem same_pure {a b : Ents} {p : Str} (ha : WFE a) (hb : WFE b) (hp : isPlaceL p = true) :
    ((sub (.dir a) (placeQ p) = none ∨ sub (.dir b) (placeQ p) = none) → sameF (toF (filesE a)) (toF (filesE b)) p = (false, 6)) ∧
    ∀ t t', sub (.dir a) (placeQ p) = some t → sub (.dir b) (placeQ p) = some t' → ∀ c : Bool, (c = true ↔ t = t') → sameF (toF (filesE a)) (toF (filesE b)) p = (c, 0) := by
  by_cases hr : p = [47]
  · subst hr
    have e : placeQ [47] = [] := rfl
    rw [e]
    simp only [sub]
    refine ⟨fun h => by simp at h, ?_⟩
    rintro t t' h1 h2 c hc
    obtain rfl := Option.some.inj h1
    obtain rfl := Option.some.inj h2
    have g1 := get_root ha
    have g2 := get_root hb
    unfold sameF
    have d1 : ∀ l : List Fl, isDirL l [47] = true := fun l => rfl
    rw [if_neg (by simp [d1]), if_neg (by omega), if_pos ⟨d1 _, d1 _⟩, in_root ha, in_root hb]
    congr 1
    rw [Bool.eq_iff_iff, hc, beq_iff_eq]
    constructor
    · intro h; rw [spell_files_inj ha hb h]
    · intro h; rw [Tree.dir.inj h]
  · have hpt : isPathL p = true := by
      unfold isPlaceL at hp
      simp only [Bool.or_eq_true, beq_iff_eq] at hp
      exact hp.resolve_right hr
    obtain ⟨hq, hj, _⟩ := path_ok hpt
    have e : placeQ p = splitL 47 p := if_neg hr
    rw [e]
    have la := look_names ha hq
    have lb := look_names hb hq
    have sa := look_sub (.dir a) (splitL 47 p)
    have sb := look_sub (.dir b) (splitL 47 p)
    rw [hj] at la lb
    have nof : ∀ {es : Ents} , WFE es → (∀ t, sub (.dir es) (splitL 47 p) = some t → ((∃ d, t = .file d) ∧ 0 ≤ getI (toF (filesE es)) p ∧ isDirL (toF (filesE es)) p = false) ∨ ((∃ c, t = .dir c) ∧ getI (toF (filesE es)) p < 0 ∧ isDirL (toF (filesE es)) p = true)) ∧ (sub (.dir es) (splitL 47 p) = none → getI (toF (filesE es)) p < 0 ∧ isDirL (toF (filesE es)) p = false) := by
      intro es he
      have le := look_names he hq
      rw [hj] at le
      refine ⟨fun t ht => ?_, fun hn => ?_⟩
      · cases t with
        | file d =>
          left
          have hl : look (some (.dir es)) (splitL 47 p) = .atFile := look_file ht
          refine ⟨⟨d, rfl⟩, by have := le.1.1 hl; omega, ?_⟩
          cases hd : isDirL (toF (filesE es)) p with
          | false => rfl
          | true => have := le.2.1.2 hd; rw [hl] at this; cases this
        | dir c =>
          right
          have hl : look (some (.dir es)) (splitL 47 p) = .atDir := look_dir ht
          refine ⟨⟨c, rfl⟩, ?_, le.2.1.1 hl⟩
          refine Classical.byContradiction fun hc => ?_
          have := le.1.2 hc; rw [hl] at this; cases this
      · have se := look_sub (.dir es) (splitL 47 p)
        rw [hn] at se
        have hno : ¬ (look (some (.dir es)) (splitL 47 p) = .atFile ∨ look (some (.dir es)) (splitL 47 p) = .atDir) := fun h => by have := se.1 h; simp at this
        refine ⟨Classical.byContradiction fun hc => hno (.inl (le.1.2 hc)), ?_⟩
        cases hd : isDirL (toF (filesE es)) p with
        | false => rfl
        | true => exact absurd (.inr (le.2.1.2 hd)) hno
    refine ⟨?_, ?_⟩
    · intro h
      unfold sameF
      rw [if_pos]
      rcases h with h | h
      · exact .inl ((nof ha).2 h)
      · exact .inr ((nof hb).2 h)
    · intro t t' h1 h2 c hc
      unfold sameF
      rcases (nof ha).1 t h1 with ⟨⟨d, rfl⟩, g1, i1⟩ | ⟨⟨x, rfl⟩, g1, i1⟩ <;> rcases (nof hb).1 t' h2 with ⟨⟨d', rfl⟩, g2, i2⟩ | ⟨⟨x', rfl⟩, g2, i2⟩
      · rw [if_neg (by omega), if_pos ⟨g1, g2⟩]
        congr 1
        have e1 := data_at ha hq h1
        have e2 := data_at hb hq h2
        rw [hj] at e1 e2
        rw [e1, e2, Bool.eq_iff_iff, hc, beq_iff_eq]
        simp
      · rw [if_neg (by simp [i2]; omega), if_neg (by omega), if_neg (by simp [i1])]
        cases c with
        | false => rfl
        | true => have := hc.1 rfl; cases this
      · rw [if_neg (by simp [i1]; omega), if_neg (by omega), if_neg (by simp [i2])]
        cases c with
        | false => rfl
        | true => have := hc.1 rfl; cases this
      · rw [if_neg (by simp [i1, i2]), if_neg (by omega), if_pos ⟨i1, i2⟩]
        congr 1
        have e1 := in_files ha hq h1
        have e2 := in_files hb hq h2
        rw [hj] at e1 e2
        rw [e1.1, e2.1, Bool.eq_iff_iff, hc, beq_iff_eq]
        constructor
        · intro h; rw [spell_files_inj e1.2 e2.2 h]
        · intro h; rw [Tree.dir.inj h]

end Go.Proofs.YtdcbgfhkfmohiaaGreatDoor
