/- The statements about what a store tells of itself: patterns and questions of raw numbers. -/
import Derived.Test.YtdcbgfhkfmohiaaGreatDoorKb31
namespace Go.Proofs.YtdcbgfhkfmohiaaGreatDoor
open Go.RowKit
attribute [local go_sem] Oper.semAt_some

def ptK : Nat → Str
  | 0 => [42, 42]
  | 1 => [97]
  | 2 => [42]
  | 3 => [63]
  | 4 => [42, 46, 104]
  | 5 => [97, 42]
  | 6 => [42, 98]
  | _ => [63, 46, 63]
def patK (n : Nat) : Str :=
  if n < 8 then ptK n
  else if n < 72 then ptK ((n - 8) / 8) ++ [47] ++ ptK ((n - 8) % 8)
  else ptK ((n - 72) / 64) ++ [47] ++ ptK ((n - 72) / 8 % 8) ++ [47] ++ ptK ((n - 72) % 8)
theorem pt_cell {w : World} {g j : Nat} (h : w.heap[g]? = some (.cells #[.string ⟨#[42, 42]⟩, .string ⟨#[97]⟩, .string ⟨#[42]⟩, .string ⟨#[63]⟩, .string ⟨#[42, 46, 104]⟩, .string ⟨#[97, 42]⟩, .string ⟨#[42, 98]⟩, .string ⟨#[63, 46, 63]⟩] 9 (0, 0))) (hj : j < 8) : w.cell? ⟨g, j, none⟩ = some (SV (ptK j)) := by
  rcases (show j = 0 ∨ j = 1 ∨ j = 2 ∨ j = 3 ∨ j = 4 ∨ j = 5 ∨ j = 6 ∨ j = 7 by omega) with rfl | rfl | rfl | rfl | rfl | rfl | rfl | rfl <;> exact (blk_cell h _).trans rfl
theorem pt_len (j : Nat) : (ptK j).length ≤ 3 := by
  unfold ptK; split <;> simp
theorem pat_len (n : Nat) : (patK n).length ≤ 11 := by
  unfold patK
  split
  · have := pt_len n; omega
  · split
    · have := pt_len ((n - 8) / 8); have := pt_len ((n - 8) % 8); simp; omega
    · have := pt_len ((n - 72) / 64); have := pt_len ((n - 72) / 8 % 8); have := pt_len ((n - 72) % 8); simp; omega
theorem path_len (n : Nat) : (pathK n).length ≤ 11 := by
  unfold pathK
  split
  · have := nm_len n; omega
  · split
    · have := nm_len ((n - 4) / 4); have := nm_len ((n - 4) % 4); simp; omega
    · have := nm_len ((n - 20) / 16); have := nm_len ((n - 20) / 4 % 4); have := nm_len ((n - 20) % 4); simp; omega

set_option maxHeartbeats 8000000 in
set_option maxRecDepth 50000 in
theorem kPattern_any (c : Int) (w : World) (hc : kIn c) : Calls Tryz.prog 31 #[.int .i64 c] w fun e w' => KText w (patK (kN c 584)) e w' := by
  have hap := app_list
  obtain ⟨w1, hw1⟩ : ∃ w1, w1 = w.alloc (.cells #[.string ⟨#[42, 42]⟩, .string ⟨#[97]⟩, .string ⟨#[42]⟩, .string ⟨#[63]⟩, .string ⟨#[42, 46, 104]⟩, .string ⟨#[97, 42]⟩, .string ⟨#[42, 98]⟩, .string ⟨#[63, 46, 63]⟩] 9) := ⟨_, rfl⟩
  have hb1 : Below w.heap.size w w1 := by rw [hw1]; exact (Below.refl _ _).alloc (Nat.le_refl _) _
  have hn1 : w1.heap[w.heap.size]? = some (.cells #[.string ⟨#[42, 42]⟩, .string ⟨#[97]⟩, .string ⟨#[42]⟩, .string ⟨#[63]⟩, .string ⟨#[42, 46, 104]⟩, .string ⟨#[97, 42]⟩, .string ⟨#[42, 98]⟩, .string ⟨#[63, 46, 63]⟩] 9 (0, 0)) := by rw [hw1]; exact heap_alloc_new _ _
  have hs1 : w.heap.size < w1.heap.size := (Array.getElem?_eq_some_iff.1 hn1).1
  have C := kPick_any c 584 w1 hc (by omega) (by omega)
  have hk := kN_lt c (n := 584) (by omega)
  generalize kN c 584 = k at *
  have HW1 : Hid _ := hw1
  have HB1 : Hid _ := hb1
  have HN1 : Hid _ := hn1
  clear hw1 hb1 hn1
  by_cases h4 : k < 8
  · have ck := pt_cell HN1.out h4
    have R : Hid (KText w (patK k) (.returned (SV (ptK k))) w1) := ⟨by rw [patK, if_pos h4], HB1.out⟩
    have h4i : (k : Int) < 8 := by omega
    clear HN1 HB1
    generalize ptK k = d at *
    go_enter Tryz.func31, Tryz.ntmps31
    go_wp2_with fail
    rw [← HW1.out]
    refine C.mono ?_
    rintro e w1 ⟨rfl, rfl⟩
    clear HW1
    go_wp2
    go_ret
    exact R.out
  · obtain ⟨m, hm⟩ : ∃ m, m = k - 8 := ⟨_, rfl⟩
    have h4i : ¬ ((k : Int) < 8) := by omega
    have e4 : ((k : Int) - 8) = (m : Int) := by omega
    by_cases h16 : m < 64
    · have h16i : (m : Int) < 64 := by omega
      have d1 : (m : Int).tdiv 8 = ((m / 8 : Nat) : Int) := by rw [Int.tdiv_eq_ediv_of_nonneg (by omega)]; omega
      have d2 : (m : Int).tmod 8 = ((m % 8 : Nat) : Int) := by rw [Int.tmod_eq_emod_of_nonneg (by omega)]; omega
      have c1 := pt_cell HN1.out (show m / 8 < 8 by omega)
      have c2 := pt_cell HN1.out (show m % 8 < 8 by omega)
      have l1 := pt_len (m / 8)
      have l2 := pt_len (m % 8)
      have R : Hid (KText w (patK k) (.returned (SV (ptK (m / 8) ++ 47 :: ptK (m % 8)))) w1) := ⟨by rw [patK, if_neg h4, if_pos (by omega), ← hm]; simp, HB1.out⟩
      have i1 : ((m / 8 : Nat) : Int) < 8 := by omega
      have i2 : ((m % 8 : Nat) : Int) < 8 := by omega
      clear HN1 HB1 hk h16 hm
      go_enter Tryz.func31, Tryz.ntmps31
      go_wp2_with fail
      rw [← HW1.out]
      refine C.mono ?_
      rintro e w1 ⟨rfl, rfl⟩
      clear HW1
      go_wp2
      go_quiet (fail)
      go_wp2
      go_ret
      exact ⟨R.out.1, below_drewN R.out.2 _⟩
    · obtain ⟨q, hq⟩ : ∃ q, q = k - 72 := ⟨_, rfl⟩
      have h16i : ¬ ((m : Int) < 64) := by omega
      have e16 : ((m : Int) - 64) = (q : Int) := by omega
      have d1 : (q : Int).tdiv 64 = ((q / 64 : Nat) : Int) := by rw [Int.tdiv_eq_ediv_of_nonneg (by omega)]; omega
      have d2 : (q : Int).tdiv 8 = ((q / 8 : Nat) : Int) := by rw [Int.tdiv_eq_ediv_of_nonneg (by omega)]; omega
      have d3 : ((q / 8 : Nat) : Int).tmod 8 = ((q / 8 % 8 : Nat) : Int) := by rw [Int.tmod_eq_emod_of_nonneg (by omega)]; omega
      have d4 : (q : Int).tmod 8 = ((q % 8 : Nat) : Int) := by rw [Int.tmod_eq_emod_of_nonneg (by omega)]; omega
      have c1 := pt_cell HN1.out (show q / 64 < 8 by omega)
      have c2 := pt_cell HN1.out (show q / 8 % 8 < 8 by omega)
      have c3 := pt_cell HN1.out (show q % 8 < 8 by omega)
      have l1 := pt_len (q / 64)
      have l2 := pt_len (q / 8 % 8)
      have l3 := pt_len (q % 8)
      have R : Hid (KText w (patK k) (.returned (SV (ptK (q / 64) ++ 47 :: (ptK (q / 8 % 8) ++ 47 :: ptK (q % 8))))) w1) := ⟨by rw [patK, if_neg h4, if_neg (by omega), ← hq]; simp, HB1.out⟩
      have i1 : ((q / 64 : Nat) : Int) < 8 := by omega
      have i2 : ((q / 8 % 8 : Nat) : Int) < 8 := by omega
      have i3 : ((q % 8 : Nat) : Int) < 8 := by omega
      clear HN1 HB1 hk hm hq
      go_enter Tryz.func31, Tryz.ntmps31
      go_wp2_with fail
      rw [← HW1.out]
      refine C.mono ?_
      rintro e w1 ⟨rfl, rfl⟩
      clear HW1
      go_wp2
      go_quiet (fail)
      go_wp2
      go_ret
      exact ⟨R.out.1, below_drewN R.out.2 _⟩

end Go.Proofs.YtdcbgfhkfmohiaaGreatDoor

/- The statements about what a store tells of itself: questions of raw numbers. -/
namespace Go.Proofs.YtdcbgfhkfmohiaaGreatDoor
open Go.RowKit
attribute [local go_sem] Oper.semAt_some

def wEx : Str := [101, 120, 105, 115, 116, 115, 32]
def wLi : Str := [108, 105, 115, 116, 32]
def wRe : Str := [114, 101, 97, 100, 32]
def wFi : Str := [102, 105, 114, 115, 116, 32, 97, 32]
def wGl : Str := [103, 108, 111, 98, 32]
def questN (k p t : Nat) : Str :=
  if k = 0 then wEx ++ pathK p else if k = 1 then wLi ++ pathK p else if k = 2 then wRe ++ pathK p else if k = 3 then wFi ++ pathK p ++ [32, 98, 32, 47] else wGl ++ patK t
def questK (c d : Int) : Str := questN (kN c 5) (kN d 84) (kN d 584)
theorem quest_paths : ∀ p : Fin 84, checkL (wEx ++ pathK p.1) = 0 ∧ checkL (wLi ++ pathK p.1) = 0 ∧ checkL (wRe ++ pathK p.1) = 0 ∧ checkL (wFi ++ pathK p.1 ++ [32, 98, 32, 47]) = 0 := by decide +kernel
theorem quest_pats : ∀ p : Fin 584, checkL (wGl ++ patK p.1) = 0 := by decide +kernel
theorem quest_ok (c d : Int) : checkL (questK c d) = 0 := by
  unfold questK questN
  have h1 := quest_paths ⟨kN d 84, kN_lt d (by omega)⟩
  have h2 := quest_pats ⟨kN d 584, kN_lt d (by omega)⟩
  split
  · exact h1.1
  split
  · exact h1.2.1
  split
  · exact h1.2.2.1
  split
  · exact h1.2.2.2
  · exact h2
set_option maxHeartbeats 8000000 in
set_option maxRecDepth 50000 in
theorem kQuestion_any (c d : Int) (w : World) (hc : kIn c) (hd : kIn d) : Calls Tryz.prog 36 #[.int .i64 c, .int .i64 d] w fun e w' => KText w (questK c d) e w' := by
  have hap := app_list
  have CK := kPick_any c 5 w hc (by omega) (by omega)
  have hk := kN_lt c (n := 5) (by omega)
  unfold questK
  generalize kN c 5 = k at *
  have h1 := path_len (kN d 84)
  have h2 := pat_len (kN d 584)
  have CP := Hid.mk' (kPath_any d w hd)
  have CT := Hid.mk' (kPattern_any d w hd)
  generalize kN d 84 = p at *
  generalize kN d 584 = t at *
  have HQ : Hid (∀ k, questN k p t = if k = 0 then wEx ++ pathK p else if k = 1 then wLi ++ pathK p else if k = 2 then wRe ++ pathK p else if k = 3 then wFi ++ pathK p ++ [32, 98, 32, 47] else wGl ++ patK t) := fun k => rfl
  generalize pathK p = pp at *
  generalize patK t = tt at *
  rcases (show k = 0 ∨ k = 1 ∨ k = 2 ∨ k = 3 ∨ k = 4 by omega) with rfl | rfl | rfl | rfl | rfl
  · have e := Hid.mk' (HQ.out 0)
    clear HQ
    go_enter Tryz.func36, Tryz.ntmps36
    go_wp2_with fail
    refine CK.mono ?_
    rintro e w ⟨rfl, rfl⟩
    clear CK
    go_wp2_with fail
    refine Calls.mono (show Calls _ _ _ _ _ from CP.out) ?_
    rintro e w2 ⟨rfl, hb⟩
    have HB := Hid.mk' hb
    clear hb CP CT
    go_wp2
    go_ret
    exact ⟨by rw [e.out]; rfl, HB.out⟩
  · have e := Hid.mk' (HQ.out 1)
    clear HQ
    go_enter Tryz.func36, Tryz.ntmps36
    go_wp2_with fail
    refine CK.mono ?_
    rintro e w ⟨rfl, rfl⟩
    clear CK
    go_wp2_with fail
    refine Calls.mono (show Calls _ _ _ _ _ from CP.out) ?_
    rintro e w2 ⟨rfl, hb⟩
    have HB := Hid.mk' hb
    clear hb CP CT
    go_wp2
    go_ret
    exact ⟨by rw [e.out]; rfl, HB.out⟩
  · have e := Hid.mk' (HQ.out 2)
    clear HQ
    go_enter Tryz.func36, Tryz.ntmps36
    go_wp2_with fail
    refine CK.mono ?_
    rintro e w ⟨rfl, rfl⟩
    clear CK
    go_wp2_with fail
    refine Calls.mono (show Calls _ _ _ _ _ from CP.out) ?_
    rintro e w2 ⟨rfl, hb⟩
    have HB := Hid.mk' hb
    clear hb CP CT
    go_wp2
    go_ret
    exact ⟨by rw [e.out]; rfl, HB.out⟩
  · have e := Hid.mk' (HQ.out 3)
    clear HQ
    go_enter Tryz.func36, Tryz.ntmps36
    go_wp2_with fail
    refine CK.mono ?_
    rintro e w ⟨rfl, rfl⟩
    clear CK
    go_wp2_with fail
    refine Calls.mono (show Calls _ _ _ _ _ from CP.out) ?_
    rintro e w2 ⟨rfl, hb⟩
    have HB := Hid.mk' hb
    clear hb CP CT
    go_wp2
    go_ret
    exact ⟨by rw [e.out]; rfl, HB.out⟩
  · have e := Hid.mk' (HQ.out 4)
    clear HQ
    go_enter Tryz.func36, Tryz.ntmps36
    go_wp2_with fail
    refine CK.mono ?_
    rintro e w ⟨rfl, rfl⟩
    clear CK
    go_wp2_with fail
    refine Calls.mono (show Calls _ _ _ _ _ from CT.out) ?_
    rintro e w2 ⟨rfl, hb⟩
    have HB := Hid.mk' hb
    clear hb CP CT
    go_wp2
    go_ret
    exact ⟨by rw [e.out]; rfl, HB.out⟩

end Go.Proofs.YtdcbgfhkfmohiaaGreatDoor

/- Planned: the statement's store with its rules. -/
namespace Go.Proofs.YtdcbgfhkfmohiaaGreatDoor
open Go.RowKit

/-- The store with rules whose views are V; the rows are none of the rules' blocks. -/
def PAt (w0 wr : World) (T : Bank) (r : RSt) (V : List RView) (rows : List Value) : Prop :=
  ∃ Rs, Rs.map (·.view) = V ∧ Okay wr T ∧ Agree T r ∧ RulesAt wr T.rr Rs ∧ (∀ k, Foot T.rr Rs k → ¬ T.own k) ∧ Below w0.heap.size w0 wr ∧ (∀ k, T.own k ∨ Foot T.rr Rs k → w0.heap.size ≤ k) ∧
    ∀ v ∈ rows, ∀ k, v.ownBlock = some k → k < wr.heap.size ∧ ¬ Foot T.rr Rs k
/-- The rows stand. -/
def RowsK (rows : List Value) (w w' : World) : Prop := ∀ v ∈ rows, ∀ k, v.ownBlock = some k → w'.heap[k]? = w.heap[k]?
theorem RowsK.row {rows : List Value} {w w' : World} {v : Value} {base : Nat} {e : TypeId} {size n : Nat} {xs : List Value} (h : RowsK rows w w') (hv : v ∈ rows) (hr : w.ownsRow base e size v n xs) : w'.ownsRow base e size v n xs :=
  rowKept hr fun k hk => h v hv k hk

theorem foot_nil {rr k : Nat} (h : Foot rr [] k) : k = rr := by
  rcases h with (h | ⟨R, hR, _⟩) | ⟨R, hR, _⟩
  · exact h
  · simp at hR
  · simp at hR
theorem PAt.start {w0 wr : World} {T : Bank} {r : RSt} {u : Value} (h : KAt w0 wr T r) (ho : ∀ k, u.ownBlock = some k → k < wr.heap.size ∧ k ≠ T.rr) : PAt w0 wr T r [] [u] := by
  refine ⟨[], rfl, h.ok, h.ag, rules_nil h.rmap, fun k hk => foot_nil hk ▸ h.rout, h.base, ?_, ?_⟩
  · rintro k (hk | hk)
    · exact h.hi k hk
    · rw [foot_nil hk]; exact h.rhi
  · intro v hv k hk
    rw [List.mem_singleton] at hv
    subst hv
    exact ⟨(ho k hk).1, fun hf => (ho k hk).2 (foot_nil hf)⟩
theorem PAt.below {w0 wr w' : World} {T : Bank} {r : RSt} {V : List RView} {rows : List Value} (h : PAt w0 wr T r V rows) (hb : Below wr.heap.size wr w') : PAt w0 w' T r V rows := by
  obtain ⟨Rs, h1, h2, h3, h4, h5, h6, h7, h8⟩ := h
  exact ⟨Rs, h1, h2.below hb, h3, h4.below hb, h5, h6.trans (hb.mono h6.size), h7, fun v hv k hk => ⟨Nat.lt_of_lt_of_le (h8 v hv k hk).1 hb.size, (h8 v hv k hk).2⟩⟩
theorem PAt.base {w0 wr : World} {T : Bank} {r : RSt} {V : List RView} {rows : List Value} (h : PAt w0 wr T r V rows) : Below w0.heap.size w0 wr := by
  obtain ⟨Rs, h1, h2, h3, h4, h5, h6, h7, h8⟩ := h
  exact h6
/-- A new row. -/
theorem PAt.more {w0 wr w' : World} {T : Bank} {r : RSt} {V : List RView} {rows : List Value} {v : Value} (h : PAt w0 wr T r V rows) (hb : Below wr.heap.size wr w') (hv : ∀ k, v.ownBlock = some k → wr.heap.size ≤ k ∧ k < w'.heap.size) : PAt w0 w' T r V (v :: rows) := by
  obtain ⟨Rs, h1, h2, h3, h4, h5, h6, h7, h8⟩ := h
  refine ⟨Rs, h1, h2.below hb, h3, h4.below hb, h5, h6.trans (hb.mono h6.size), h7, fun u hu k hk => ?_⟩
  rw [List.mem_cons] at hu
  rcases hu with rfl | hu
  · refine ⟨(hv k hk).2, fun hf => ?_⟩
    have := h4.lt hf
    have := (hv k hk).1
    omega
  · exact ⟨Nat.lt_of_lt_of_le (h8 u hu k hk).1 hb.size, (h8 u hu k hk).2⟩
theorem PAt.fewer {w0 wr : World} {T : Bank} {r : RSt} {V : List RView} {rows rows' : List Value} (h : PAt w0 wr T r V rows) (hs : ∀ v ∈ rows', v ∈ rows) : PAt w0 wr T r V rows' := by
  obtain ⟨Rs, h1, h2, h3, h4, h5, h6, h7, h8⟩ := h
  exact ⟨Rs, h1, h2, h3, h4, h5, h6, h7, fun v hv => h8 v (hs v hv)⟩
theorem PAt.turn {w0 wr w' : World} {T : Bank} {r : RSt} {rows : List Value} {Rs : List RuleP} {V' : List RView} (h2 : Okay wr T) (h3 : Agree T r) (_h4 : RulesAt wr T.rr Rs) (h5 : ∀ k, Foot T.rr Rs k → ¬ T.own k) (h6 : Below w0.heap.size w0 wr) (h7 : ∀ k, T.own k ∨ Foot T.rr Rs k → w0.heap.size ≤ k)
    (h8 : ∀ v ∈ rows, ∀ k, v.ownBlock = some k → k < wr.heap.size ∧ ¬ Foot T.rr Rs k) (h : RulesOut wr.heap.size wr T.rr Rs V' w') : PAt w0 w' T r V' rows ∧ RowsK rows wr w' := by
  obtain ⟨Rs', k1, k2, k3, k4⟩ := h
  have hsl : ∀ k, T.own k → k < wr.heap.size := fun k hk => h2.at'.own_lt hk
  have hbase : Below w0.heap.size w0 w' := ⟨k3.os.trans h6.os, k3.tape.trans h6.tape, k3.output.trans h6.output, Nat.le_trans h6.size k3.size, fun k hk => (k3.blk k (Nat.lt_of_lt_of_le hk h6.size) fun ho => by have := h7 k (.inr (.inl ho)); omega).trans (h6.block k hk)⟩
  refine ⟨⟨Rs', k2, h2.frame fun k hk => k3.blk k (hsl k hk) fun ho => h5 k (.inl ho) hk, h3, k1, ?_, hbase, ?_, ?_⟩, ?_⟩
  · intro k hk ho
    rcases k4 k hk with h | h
    · exact h5 k h ho
    · have := hsl k ho; omega
  · rintro k (hk | hk)
    · exact h7 k (.inl hk)
    · rcases k4 k hk with h | h
      · exact h7 k (.inr h)
      · exact Nat.le_trans h6.size h
  · intro v hv k hk
    have h9 := h8 v hv k hk
    refine ⟨Nat.lt_of_lt_of_le h9.1 k3.size, fun hf => ?_⟩
    rcases k4 k hf with h | h
    · exact h9.2 h
    · omega
  · intro v hv k hk
    have h9 := h8 v hv k hk
    exact k3.blk k h9.1 fun ho => h9.2 (.inl ho)

theorem PAt.rule {w0 wr : World} {T : Bank} {r : RSt} {V : List RView} {rows : List Value} {nm : Str} {xs : List Str} {nv : Value} (h : PAt w0 wr T r V rows) (hN : NamesAt wr nv xs) (hmx : MaxOk w0) (hl : nm.length ≤ maxLen) :
    Calls Tryz.prog 37 #[ptrV T.sb, SV nm, nv] wr fun e w' => e = .returned (.int .i64 (ruleE V nm xs)) ∧ PAt w0 w' T r (ruleV V nm xs) rows ∧ RowsK rows wr w' := by
  obtain ⟨Rs, h1, h2, h3, h4, h5, h6, h7, h8⟩ := h
  refine (storeRule_any T.sb T.rr Rs nm xs nv wr ((blk_cell h2.at'.store 5).trans rfl) h4 hN (hmx.below h6 hmx.lt) hl).mono ?_
  rintro e w' ⟨rfl, h9⟩
  rw [h1] at h9 ⊢
  exact ⟨rfl, PAt.turn h2 h3 h4 h5 h6 h7 h8 h9⟩
theorem PAt.plan {w0 wr : World} {T : Bank} {r : RSt} {V : List RView} {rows : List Value} {n : Int} {l : List Fl} (h : PAt w0 wr T r V rows) (hne : V ≠ []) (hf : findL r.all n = some l) :
    Calls Tryz.prog 35 #[ptrV T.sb, .int .i64 n] wr fun e w' => ∃ es, l = toF (filesE es) ∧ WFE es ∧ heightE es ≤ 5 ∧ e = .returned (.tuple #[SV ((srt V).flatMap (lineP es V)), .int .i64 0]) ∧ PAt w0 w' T r (builtV es V) rows ∧ RowsK rows wr w' := by
  obtain ⟨Rs, h1, h2, h3, h4, h5, h6, h7, h8⟩ := h
  have hne' : Rs ≠ [] := by intro e; rw [e] at h1; exact hne h1.symm
  refine (storePlan_any T r n Rs wr h2 h3 h4 h5).mono ?_
  rintro e w' (⟨h9, _⟩ | ⟨es, h9, h10, h11, h12⟩)
  · rw [hf] at h9; simp at h9
  · rw [hf] at h9
    simp only [Option.some.injEq] at h9
    rcases h12 with ⟨h12, _⟩ | ⟨_, rfl, h12⟩
    · exact absurd h12 hne'
    · rw [h1] at h12 ⊢
      exact ⟨es, h9, h10, h11, rfl, PAt.turn h2 h3 h4 h5 h6 h7 h8 h12⟩
theorem PAt.plan0 {w0 wr : World} {T : Bank} {r : RSt} {rows : List Value} {n : Int} {l : List Fl} (h : PAt w0 wr T r [] rows) (hf : findL r.all n = some l) :
    Calls Tryz.prog 35 #[ptrV T.sb, .int .i64 n] wr fun e w' => e = .returned (.tuple #[SV [], .int .i64 11]) ∧ PAt w0 w' T r [] rows ∧ RowsK rows wr w' := by
  obtain ⟨Rs, h1, h2, h3, h4, h5, h6, h7, h8⟩ := h
  have hne' : Rs = [] := by simpa using h1
  refine (storePlan_any T r n Rs wr h2 h3 h4 h5).mono ?_
  rintro e w' (⟨h9, _⟩ | ⟨es, h9, h10, h11, h12⟩)
  · rw [hf] at h9; simp at h9
  · rcases h12 with ⟨_, rfl, h12⟩ | ⟨h12, _⟩
    · rw [h1] at h12
      exact ⟨rfl, PAt.turn h2 h3 h4 h5 h6 h7 h8 h12⟩
    · exact absurd hne' h12
theorem PAt.ask {w0 wr : World} {T : Bank} {r : RSt} {V : List RView} {rows : List Value} (h : PAt w0 wr T r V rows) (hmx : MaxOk w0) {n : Int} {l : List Fl} {t : Str} (hf : findL r.all n = some l) (hc : checkL t = 0) :
    Calls Tryz.prog 32 #[ptrV T.sb, .int .i64 n, SV t] wr fun e w' => DiffOut wr (answerL l (splitL 32 t), 0) e w' := by
  obtain ⟨Rs, h1, h2, h3, h4, h5, h6, h7, h8⟩ := h
  have := storeAsk_any T r n t wr h2 h3 (hmx.below h6 hmx.lt)
  rw [askR_ok hf hc] at this
  exact this

end Go.Proofs.YtdcbgfhkfmohiaaGreatDoor

/- Planned: what the two rules answer. No program. -/
namespace Go.Proofs.YtdcbgfhkfmohiaaGreatDoor
open Go.RowKit

def tOne : Str := [111, 110, 101]
def tTwo : Str := [116, 119, 111]
def qExA : Str := [101, 120, 105, 115, 116, 115, 32, 97]
def ansK (l : List Fl) (x : Str) : Str := answerL l (splitL 32 x)
theorem qExA_ok : checkL qExA = 0 := by decide +kernel
theorem ask_qn {es : Ents} (hw : WFE es) (h5 : heightE es ≤ 5) {x : Str} (h : checkL x = 0) : answerQ es ((qnOf (splitL 32 x)).getD (.ex none)) = ansK (toF (filesE es)) x := by
  have hl := (check_ok h).1
  rw [check_parse hl, parseW] at h
  cases hq : qnOf (splitL 32 x) with
  | none => rw [hq] at h; simp at h
  | some q => rw [hq] at h; exact answer_tree hw h5 hq h
theorem now_ans {es : Ents} (hw : WFE es) (h5 : heightE es ≤ 5) {xs : List Str} (hx : ∀ x ∈ xs, checkL x = 0) : nowQ es (qnsL xs) = xs.map (ansK (toF (filesE es))) := by
  unfold nowQ qnsL
  rw [List.map_map]
  exact List.map_congr_left fun x h => ask_qn hw h5 (hx x h)
/-- The two rules, and what they answered when they were told last. -/
def V1 (xs : List Str) (a : List Str) : List RView := [⟨tOne, qnsL xs, a⟩]
def VB (b : List Str) : List RView := [⟨tTwo, qnsL [qExA], b⟩]
def V2 (xs : List Str) (a b : List Str) : List RView := [⟨tOne, qnsL xs, a⟩, ⟨tTwo, qnsL [qExA], b⟩]
structure Qok (xs : List Str) : Prop where
  ok : ∀ x ∈ xs, checkL x = 0
  ne : xs ≠ []
  few : xs.length ≤ 6
theorem one_name : isNameL tOne false = true := by decide +kernel
theorem two_name : isNameL tTwo false = true := by decide +kernel
theorem rule_one {xs : List Str} (h : Qok xs) : ruleE [] tOne xs = 0 ∧ ruleV [] tOne xs = V1 xs [] := by
  have e : ruleE [] tOne xs = 0 := by
    unfold ruleE
    have := h.few
    rw [if_pos one_name, if_neg (by simp; omega), checkAll_ok h.ok]
  refine ⟨e, ?_⟩
  unfold ruleV
  rw [if_pos e, if_neg h.ne]
  rfl
theorem rule_two (xs : List Str) : ruleE (V1 xs []) tTwo [qExA] = 0 ∧ ruleV (V1 xs []) tTwo [qExA] = V2 xs [] [] := by
  have e : ruleE (V1 xs []) tTwo [qExA] = 0 := by
    unfold ruleE
    rw [if_pos two_name, if_neg (by simp [V1]), checkAll_ok (by simp [qExA_ok])]
  refine ⟨e, ?_⟩
  unfold ruleV
  rw [if_pos e, if_neg (by simp)]
  rfl
theorem rule_again {xs : List Str} (h : Qok xs) (a b : List Str) : ruleE (V2 xs a b) tOne xs = 0 ∧ ruleV (V2 xs a b) tOne xs = V2 xs [] b := by
  have e : ruleE (V2 xs a b) tOne xs = 0 := by
    unfold ruleE
    have := h.few
    rw [if_pos one_name, if_neg (by simp [V2]; omega), checkAll_ok h.ok]
  refine ⟨e, ?_⟩
  unfold ruleV
  rw [if_pos e, if_neg h.ne]
  rfl
theorem rule_gone (xs a b : List Str) : ruleE (V2 xs a b) tOne [] = 0 ∧ ruleV (V2 xs a b) tOne [] = VB b := by
  have e : ruleE (V2 xs a b) tOne [] = 0 := by
    unfold ruleE
    rw [if_pos one_name, if_neg (by simp [V2])]
    rfl
  refine ⟨e, ?_⟩
  unfold ruleV
  rw [if_pos e, if_pos rfl]
  rfl
def lineK (n : Str) (now was : List Str) : Str := if now = was then [] else n ++ [10]
theorem srt_two (xs a b : List Str) : srt (V2 xs a b) = [tOne, tTwo] := by
  have : (srt (V2 xs a b)) = ([tOne, tTwo] : List Str).mergeSort leB := rfl
  rw [this]
  exact List.mergeSort_of_pairwise (by simp [leB]; decide)
theorem plan_two {es : Ents} (hw : WFE es) (h5 : heightE es ≤ 5) {xs : List Str} (h : Qok xs) (a b : List Str) :
    (srt (V2 xs a b)).flatMap (lineP es (V2 xs a b)) = lineK tOne (xs.map (ansK (toF (filesE es)))) a ++ lineK tTwo [ansK (toF (filesE es)) qExA] b ∧
    builtV es (V2 xs a b) = V2 xs (xs.map (ansK (toF (filesE es)))) [ansK (toF (filesE es)) qExA] := by
  have e1 := now_ans hw h5 h.ok
  have e2 := now_ans hw h5 (xs := [qExA]) (by simp [qExA_ok])
  constructor
  · rw [srt_two]
    simp only [List.flatMap_cons, List.flatMap_nil, List.append_nil, lineP, V2, List.any_cons, List.any_nil, Bool.or_false, e1, e2]
    have n1 : (tTwo == tOne) = false := by decide
    have n2 : (tOne == tTwo) = false := by decide
    simp only [n1, n2, beq_self_eq_true, Bool.true_and, Bool.false_and, Bool.or_false, Bool.false_or, List.map_cons, List.map_nil, decide_eq_true_eq, lineK, ne_eq, ite_not]
  · simp only [builtV, V2, List.map_cons, List.map_nil, e1, e2]
theorem plan_last {es : Ents} (hw : WFE es) (h5 : heightE es ≤ 5) (b : List Str) : (srt (VB b)).flatMap (lineP es (VB b)) = lineK tTwo [ansK (toF (filesE es)) qExA] b := by
  have e2 := now_ans hw h5 (xs := [qExA]) (by simp [qExA_ok])
  have e : srt (VB b) = [tTwo] := by unfold srt VB; simp
  rw [e]
  simp only [List.flatMap_cons, List.flatMap_nil, List.append_nil, lineP, VB, List.any_cons, List.any_nil, Bool.or_false, e2, beq_self_eq_true, Bool.true_and, List.map_cons, List.map_nil, decide_eq_true_eq, lineK, ne_eq, ite_not]

theorem Played.zero {r : RSt} {ns : List Nat} (h : Played r ns) : 0 ∈ ns := by
  induction h with
  | start => simp
  | more _ _ _ _ ih => exact List.mem_append_left _ ih
/-- What was told last of the second rule. -/
def SecK (b : List Str) (sec : Str) : Prop := (b = [] ∧ sec = []) ∨ (b = [sec] ∧ sec ≠ [])
theorem sec_line {b : List Str} {sec x : Str} (h : SecK b sec) (hx : x ≠ []) : lineK tTwo [x] b = if x = sec then [] else tTwo ++ [10] := by
  unfold lineK
  rcases h with ⟨rfl, rfl⟩ | ⟨rfl, _⟩
  · rw [if_neg (by simp), if_neg hx]
  · by_cases e : x = sec
    · rw [if_pos e, if_pos (by rw [e])]
    · rw [if_neg e, if_neg (by simpa using e)]
theorem ex_words : splitL 32 qExA = [kExists, [97]] := by decide +kernel
theorem ex_ne (l : List Fl) : ansK l qExA ≠ [] := by
  unfold ansK
  rw [ex_words]
  unfold answerL
  rw [if_pos (by simp)]
  unfold kindL
  split
  · simp [fileT]
  split
  · simp [dirT]
  · simp [noT]
def mustK (a ys : List Str) (j : Nat) : Bool := decide (a = [] ∨ ys ≠ a.take j)
theorem must_start (a : List Str) : mustK a [] 0 = decide (a = []) := by simp [mustK]
theorem must_true {a ys : List Str} {j : Nat} {x : Str} (hl : ys.length = j) (h : mustK a ys j = true) : mustK a (ys ++ [x]) (j + 1) = true := by
  unfold mustK at *
  rw [decide_eq_true_eq] at *
  rcases h with h | h
  · exact .inl h
  · refine .inr fun e => h ?_
    have := congrArg (List.take j) e
    rw [List.take_take, List.take_append_of_le_length (by omega), List.take_of_length_le (by omega)] at this
    rw [this, Nat.min_eq_left (by omega)]
theorem must_false {a ys : List Str} {j : Nat} {x : Str} (h : mustK a ys j = false) (hj : j < a.length) : mustK a (ys ++ [x]) (j + 1) = decide (a[j] ≠ x) := by
  unfold mustK at *
  rw [decide_eq_false_iff_not, not_or] at h
  have e : ys = a.take j := Decidable.not_not.1 h.2
  rw [e, List.take_succ_eq_append_getElem hj, decide_eq_decide]
  constructor
  · rintro (h1 | h1)
    · exact absurd h1 h.1
    · intro e; exact h1 (by rw [e])
  · intro h1
    refine .inr fun e => h1 ?_
    simpa using (List.append_cancel_left e).symm
theorem must_end {a ys : List Str} {n : Nat} (hn : 0 < n) (hl : ys.length = n) (ha : a = [] ∨ a.length = n) : mustK a ys n = decide (ys ≠ a) := by
  unfold mustK
  rw [decide_eq_decide]
  rcases ha with rfl | ha
  · constructor
    · intro _ e; rw [e] at hl; simp at hl; omega
    · intro _; exact .inl rfl
  · rw [List.take_of_length_le (by omega)]
    constructor
    · rintro (h | h)
      · rw [h] at ha; simp at ha; omega
      · exact h
    · exact .inr

theorem PAt.plan2 {w0 wr : World} {T : Bank} {r : RSt} {xs a b : List Str} {rows : List Value} {n : Int} {l : List Fl} (h : PAt w0 wr T r (V2 xs a b) rows) (hx : Qok xs) (hf : findL r.all n = some l) :
    Calls Tryz.prog 35 #[ptrV T.sb, .int .i64 n] wr fun e w' => e = .returned (.tuple #[SV (lineK tOne (xs.map (ansK l)) a ++ lineK tTwo [ansK l qExA] b), .int .i64 0]) ∧ PAt w0 w' T r (V2 xs (xs.map (ansK l)) [ansK l qExA]) rows ∧ RowsK rows wr w' := by
  refine (h.plan (by simp [V2]) hf).mono ?_
  rintro e w' ⟨es, rfl, h1, h2, rfl, h3, h4⟩
  rw [(plan_two h1 h2 hx a b).2] at h3
  rw [(plan_two h1 h2 hx a b).1]
  exact ⟨rfl, h3, h4⟩
theorem PAt.planB {w0 wr : World} {T : Bank} {r : RSt} {b : List Str} {rows : List Value} {n : Int} {l : List Fl} (h : PAt w0 wr T r (VB b) rows) (hf : findL r.all n = some l) :
    Calls Tryz.prog 35 #[ptrV T.sb, .int .i64 n] wr fun e w' => e = .returned (.tuple #[SV (lineK tTwo [ansK l qExA] b), .int .i64 0]) ∧ Below w0.heap.size w0 w' := by
  refine (h.plan (by simp [VB]) hf).mono ?_
  rintro e w' ⟨es, rfl, h1, h2, rfl, h3, h4⟩
  rw [plan_last h1 h2 b]
  exact ⟨rfl, h3.base⟩
theorem PAt.ruleTwo {w0 wr : World} {T : Bank} {r : RSt} {xs : List Str} {rows : List Value} (h : PAt w0 wr T r (V1 xs []) rows) (hm : MaxOk w0) :
    Calls Tryz.prog 37 #[ptrV T.sb, .string ⟨#[116, 119, 111]⟩, .slice (some ⟨wr.heap.size, 0, none⟩) 1 1] (wr.alloc (.cells #[.string ⟨#[101, 120, 105, 115, 116, 115, 32, 97]⟩] 9)) fun e w' => e = .returned (.int .i64 0) ∧ PAt w0 w' T r (V2 xs [] []) rows ∧ RowsK rows wr w' := by
  obtain ⟨w1, hw1⟩ : ∃ w1, w1 = wr.alloc (.cells #[.string ⟨#[101, 120, 105, 115, 116, 115, 32, 97]⟩] 9) := ⟨_, rfl⟩
  have hb : Below wr.heap.size wr w1 := by rw [hw1]; exact (Below.refl _ _).alloc (Nat.le_refl _) _
  have hn1 : w1.heap[wr.heap.size]? = some (.cells #[.string ⟨#[101, 120, 105, 115, 116, 115, 32, 97]⟩] 9 (0, 0)) := by rw [hw1]; exact heap_alloc_new _ _
  rw [← hw1]
  have hN : NamesAt w1 (.slice (some ⟨wr.heap.size, 0, none⟩) 1 1) [qExA] := ⟨_, _, rfl, by simp, by unfold maxLen; omega, fun k hk => ⟨wr.heap.size, 0, rfl, (Array.getElem?_eq_some_iff.1 hn1).1, by
    obtain rfl : k = 0 := by simpa using hk
    exact (blk_cell hn1 0).trans rfl⟩⟩
  have hlt : ∀ v ∈ rows, ∀ k, v.ownBlock = some k → k < wr.heap.size := by
    obtain ⟨Rs, _, _, _, _, _, _, _, h8⟩ := h
    exact fun v hv k hk => (h8 v hv k hk).1
  have C := (h.below hb).rule (nm := tTwo) hN hm (by decide)
  rw [(rule_two xs).1, (rule_two xs).2] at C
  refine C.mono ?_
  rintro e w' ⟨rfl, h1, h2⟩
  exact ⟨rfl, h1, fun v hv k hk => (h2 v hv k hk).trans (hb.block k (hlt v hv k hk))⟩
theorem PAt.ruleOne {w0 wr : World} {T : Bank} {r : RSt} {xs : List Str} {rows : List Value} {q : Value} (h : PAt w0 wr T r [] rows) (hx : Qok xs) (hN : NamesAt wr q xs) (hm : MaxOk w0) :
    Calls Tryz.prog 37 #[ptrV T.sb, .string ⟨#[111, 110, 101]⟩, q] wr fun e w' => e = .returned (.int .i64 0) ∧ PAt w0 w' T r (V1 xs []) rows ∧ RowsK rows wr w' := by
  have C := h.rule (nm := tOne) hN hm (by decide)
  rw [(rule_one hx).1, (rule_one hx).2] at C
  exact C
theorem PAt.ruleAgain {w0 wr : World} {T : Bank} {r : RSt} {xs a b : List Str} {rows : List Value} {q : Value} (h : PAt w0 wr T r (V2 xs a b) rows) (hx : Qok xs) (hN : NamesAt wr q xs) (hm : MaxOk w0) :
    Calls Tryz.prog 37 #[ptrV T.sb, .string ⟨#[111, 110, 101]⟩, q] wr fun e w' => e = .returned (.int .i64 0) ∧ PAt w0 w' T r (V2 xs [] b) rows ∧ RowsK rows wr w' := by
  have C := h.rule (nm := tOne) hN hm (by decide)
  rw [(rule_again hx a b).1, (rule_again hx a b).2] at C
  exact C
theorem PAt.ruleGone {w0 wr : World} {T : Bank} {r : RSt} {xs a b : List Str} {rows : List Value} (h : PAt w0 wr T r (V2 xs a b) rows) (hm : MaxOk w0) :
    Calls Tryz.prog 37 #[ptrV T.sb, .string ⟨#[111, 110, 101]⟩, .slice none 0 0] wr fun e w' => e = .returned (.int .i64 0) ∧ PAt w0 w' T r (VB b) rows ∧ RowsK rows wr w' := by
  have hN : NamesAt wr (.slice none 0 0) [] := ⟨none, 0, rfl, by simp, by unfold maxLen; omega, fun k hk => by simp at hk⟩
  have C := h.rule (nm := tOne) hN hm (by decide)
  rw [(rule_gone xs a b).1, (rule_gone xs a b).2] at C
  exact C

end Go.Proofs.YtdcbgfhkfmohiaaGreatDoor
