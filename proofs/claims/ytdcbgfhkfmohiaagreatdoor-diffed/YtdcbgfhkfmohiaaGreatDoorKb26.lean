/- Rules in memory: all of a store's; setRule. -/
import Derived.Test.YtdcbgfhkfmohiaaGreatDoorKb25
namespace Go.Proofs.YtdcbgfhkfmohiaaGreatDoor
open Go.RowKit
attribute [local go_sem] Oper.semAt_some

/-- What may be written of a store's rules. -/
def Ow (rr : Nat) (Rs : List RuleP) (k : Nat) : Prop := k = rr ∨ ∃ R ∈ Rs, k = R.b ∨ k = R.m
def Foot (rr : Nat) (Rs : List RuleP) (k : Nat) : Prop := Ow rr Rs k ∨ ∃ R ∈ Rs, R.lo ≤ k ∧ k < R.hi

structure RulesAt (w : World) (rr : Nat) (Rs : List RuleP) : Prop where
  map : ∃ es c, w.heap[rr]? = some (.map es c) ∧ Holds es (fun x : Str × Nat => SV x.1) (fun x => ptrV x.2) (Rs.map fun R => (R.name, R.b)) ∧ MapKept.Stamped es c
  each : ∀ R ∈ Rs, RuleAt w R
  nd : (Rs.map (·.name)).Nodup
  apB : ∀ R ∈ Rs, R.b ≠ rr ∧ R.m ≠ rr
  apS : ∀ R ∈ Rs, ∀ R' ∈ Rs, R.name ≠ R'.name → R.b ≠ R'.b ∧ R.b ≠ R'.m ∧ R.m ≠ R'.m
  out : ∀ R ∈ Rs, ∀ k, Ow rr Rs k → ¬ (R.lo ≤ k ∧ k < R.hi)
  few : Rs.length ≤ 8
  short : ∀ R ∈ Rs, R.name.length ≤ 8

theorem RuleAt.keep {w w' : World} {R : RuleP} (h : RuleAt w R) (hs : w.heap.size ≤ w'.heap.size) (h1 : w'.heap[R.b]? = w.heap[R.b]?) (h2 : w'.heap[R.m]? = w.heap[R.m]?) (hb : ∀ k, R.lo ≤ k → k < R.hi → w'.heap[k]? = w.heap[k]?) : RuleAt w' R := by
  obtain ⟨es, c, h3, h4⟩ := h.amap
  exact ⟨h1.trans h.cell, ⟨es, c, h2.trans h3, h4⟩, h.asked.keep hs hb, h.ne, h.outB, h.outM, h.full, h.short, h.few⟩
theorem RulesAt.keep {w w' : World} {rr : Nat} {Rs : List RuleP} (h : RulesAt w rr Rs) (hs : w.heap.size ≤ w'.heap.size) (hb : ∀ k, Foot rr Rs k → w'.heap[k]? = w.heap[k]?) : RulesAt w' rr Rs := by
  obtain ⟨es, c, h3, h4⟩ := h.map
  exact ⟨⟨es, c, (hb rr (.inl (.inl rfl))).trans h3, h4⟩, fun R hR => (h.each R hR).keep hs (hb _ (.inl (.inr ⟨R, hR, .inl rfl⟩))) (hb _ (.inl (.inr ⟨R, hR, .inr rfl⟩))) (fun k h1 h2 => hb k (.inr ⟨R, hR, h1, h2⟩)), h.nd, h.apB, h.apS, h.out, h.few, h.short⟩
theorem RulesAt.lt {w : World} {rr : Nat} {Rs : List RuleP} (h : RulesAt w rr Rs) {k : Nat} (hk : Foot rr Rs k) : k < w.heap.size := by
  rcases hk with (rfl | ⟨R, hR, rfl | rfl⟩) | ⟨R, hR, h1, h2⟩
  · obtain ⟨es, c, h3, h4⟩ := h.map
    exact (Array.getElem?_eq_some_iff.1 h3).1
  · exact (Array.getElem?_eq_some_iff.1 (h.each R hR).cell).1
  · obtain ⟨es, c, h3, h4⟩ := (h.each R hR).amap
    exact (Array.getElem?_eq_some_iff.1 h3).1
  · have := (h.each R hR).asked.1; omega
theorem RulesAt.below {w w' : World} {rr : Nat} {Rs : List RuleP} (h : RulesAt w rr Rs) (hb : Below w.heap.size w w') : RulesAt w' rr Rs := h.keep hb.size fun _ hk => hb.block _ (h.lt hk)

theorem name_inj {Rs : List RuleP} (hnd : (Rs.map (·.name)).Nodup) {R R' : RuleP} (h : R ∈ Rs) (h' : R' ∈ Rs) (e : R.name = R'.name) : R = R' := by
  induction Rs with
  | nil => simp at h
  | cons a l ih =>
    simp only [List.map_cons, List.nodup_cons, List.mem_map, not_exists, not_and] at hnd
    rw [List.mem_cons] at h h'
    rcases h with rfl | h <;> rcases h' with rfl | h'
    · rfl
    · exact absurd e.symm (hnd.1 R' h')
    · exact absurd e (hnd.1 R h)
    · exact ih hnd.2 h h'

theorem rules_find {w : World} {rr : Nat} {Rs : List RuleP} (h : RulesAt w rr Rs) {R : RuleP} (hR : R ∈ Rs) : (Instr.lookup 85 (.map (some rr)) (SV R.name) false).run Tryz.prog w = .ok (ptrV R.b) w := by
  obtain ⟨es, c, h3, h4⟩ := h.map
  exact run_lookup_in (V := fun x : Str × Nat => ptrV x.2) (x0 := (R.name, R.b)) Tryz.underlying85 h3 (finds_str (w := w) (g := fun x : Str × Nat => x.1) (x0 := (R.name, R.b)) h4.1 (fun x hx e => by
    simp only [List.mem_map] at hx
    obtain ⟨R', hR', rfl⟩ := hx
    rw [name_inj h.nd hR hR' e])) (List.mem_map.2 ⟨R, hR, rfl⟩)
theorem rules_finds_no {w W : World} {rr : Nat} {Rs : List RuleP} (_ : RulesAt w rr Rs) {es : Array MapEntry} (h4 : Holds es (fun x : Str × Nat => SV x.1) (fun x => ptrV x.2) (Rs.map fun R => (R.name, R.b))) {n : Str} (hn : ∀ R ∈ Rs, R.name ≠ n) : Finds W 9 (SV n) es (fun x : Str × Nat => ptrV x.2) (Rs.map fun R => (R.name, R.b)) (n, 0) ∧ (n, 0) ∉ (Rs.map fun R => (R.name, R.b)) := by
  have hno : ∀ x ∈ (Rs.map fun R => (R.name, R.b)), n ≠ x.1 := fun x hx e => by
    simp only [List.mem_map] at hx
    obtain ⟨R', hR', rfl⟩ := hx
    exact hn R' hR' e.symm
  exact ⟨finds_str (w := W) (g := fun x : Str × Nat => x.1) (x0 := (n, 0)) h4 (fun x hx e => absurd e (hno x hx)), fun hm => hno _ hm rfl⟩
theorem rules_none {w : World} {rr : Nat} {Rs : List RuleP} (h : RulesAt w rr Rs) {n : Str} (hn : ∀ R ∈ Rs, R.name ≠ n) : (Instr.lookup 85 (.map (some rr)) (SV n) false).run Tryz.prog w = .ok (.pointer none) w := by
  obtain ⟨es, c, h3, h4⟩ := h.map
  obtain ⟨h5, h6⟩ := rules_finds_no (W := w) h h4.1 hn
  exact run_lookup_out Tryz.underlying85 h3 h5 h6 (Tryz.zeroRule w)

/-- A rule as one speaks of it: its name, its questions, its answers. -/
structure RView where
  name : Str
  qs : List Qn
  ans : List Str
def RuleP.view (R : RuleP) : RView := ⟨R.name, R.qs, R.ans⟩
def setV (V : List RView) (n : Str) (qs : List Qn) : List RView :=
  if V.any (·.name == n) then V.map fun x => if x.name == n then ⟨n, qs, []⟩ else x else V ++ [⟨n, qs, []⟩]

def RulesOut (N : Nat) (w : World) (rr : Nat) (Rs : List RuleP) (V : List RView) (w' : World) : Prop :=
  ∃ Rs', RulesAt w' rr Rs' ∧ Rs'.map (·.view) = V ∧ Turn (Ow rr Rs) w w' (Ow rr Rs') ∧ ∀ k, Foot rr Rs' k → Foot rr Rs k ∨ N ≤ k

/-- What the new questions of a rule must be. -/
structure NewQs (w : World) (rr : Nat) (Rs : List RuleP) (qv : Value) (qs : List Qn) (lo : Nat) : Prop where
  at' : QsAt lo w qv qs
  le : lo ≤ w.heap.size
  out : ∀ k, Ow rr Rs k → k < lo
  short : ∀ q ∈ qs, shortQ q
  few : qs ≠ [] ∧ qs.length ≤ 6

def reask (n : Str) (qs : List Qn) (qv : Value) (lo hi : Nat) (x : RuleP) : RuleP := if x.name == n then { x with qs := qs, ans := [], v := qv, lo := lo, hi := hi } else x
theorem reask_keeps (n : Str) (qs : List Qn) (qv : Value) (lo hi : Nat) (x : RuleP) : (reask n qs qv lo hi x).name = x.name ∧ (reask n qs qv lo hi x).b = x.b ∧ (reask n qs qv lo hi x).m = x.m := by
  unfold reask; split <;> simp
theorem reask_ow {n : Str} {qs : List Qn} {qv : Value} {lo hi rr : Nat} {Rs : List RuleP} {k : Nat} : Ow rr (Rs.map (reask n qs qv lo hi)) k ↔ Ow rr Rs k := by
  unfold Ow
  constructor
  · rintro (h | ⟨R, hR, h⟩)
    · exact .inl h
    · rw [List.mem_map] at hR
      obtain ⟨x, hx, rfl⟩ := hR
      obtain ⟨_, h2, h3⟩ := reask_keeps n qs qv lo hi x
      rw [h2, h3] at h
      exact .inr ⟨x, hx, h⟩
  · rintro (h | ⟨R, hR, h⟩)
    · exact .inl h
    · obtain ⟨_, h2, h3⟩ := reask_keeps n qs qv lo hi R
      exact .inr ⟨_, List.mem_map.2 ⟨R, hR, rfl⟩, by rw [h2, h3]; exact h⟩

theorem rules_change {w w2 w3 : World} {rr : Nat} {Rs : List RuleP} {R : RuleP} {qv : Value} {qs : List Qn} {lo c : Nat} (h : RulesAt w rr Rs) (hR : R ∈ Rs) (hq : NewQs w rr Rs qv qs lo) (h2 : Set1 w w2 R.m (.map #[] c)) (h3 : Set1 w2 w3 R.b (.cells #[qv, .map (some R.m)] 179 (0, 0))) :
    RulesOut lo w rr Rs (setV (Rs.map (·.view)) R.name qs) w3 := by
  have hoth : ∀ k, k ≠ R.m → k ≠ R.b → w3.heap[k]? = w.heap[k]? := fun k h4 h5 => (h3.other k h5).trans (h2.other k h4)
  have hsz : w3.heap.size = w.heap.size := h3.size.trans h2.size
  have hRa := h.each R hR
  have hoR : ∀ k, k = R.b ∨ k = R.m → Ow rr Rs k := fun k hk => .inr ⟨R, hR, hk⟩
  have hout : ∀ x ∈ Rs.map (reask R.name qs qv lo w.heap.size), ∀ k, Ow rr Rs k → ¬ (x.lo ≤ k ∧ k < x.hi) := by
    intro x hx k hk
    rw [List.mem_map] at hx
    obtain ⟨y, hy, rfl⟩ := hx
    unfold reask
    split
    · have := hq.out k hk; simp only; omega
    · exact h.out y hy k hk
  refine ⟨Rs.map (reask R.name qs qv lo w.heap.size), ⟨?_, ?_, ?_, ?_, ?_, ?_, ?_, ?_⟩, ?_, ?_, ?_⟩
  · obtain ⟨es, cl, h4, h5⟩ := h.map
    refine ⟨es, cl, (hoth rr (Ne.symm (h.apB R hR).2) (Ne.symm (h.apB R hR).1)).trans h4, ?_⟩
    have e : (Rs.map (reask R.name qs qv lo w.heap.size)).map (fun R => (R.name, R.b)) = Rs.map (fun R => (R.name, R.b)) := by
      rw [List.map_map]
      apply List.map_congr_left
      intro x _
      obtain ⟨e1, e2, _⟩ := reask_keeps R.name qs qv lo w.heap.size x
      simp only [Function.comp, e1, e2]
    rw [e]; exact h5
  · intro x hx
    rw [List.mem_map] at hx
    obtain ⟨y, hy, rfl⟩ := hx
    by_cases e : y.name = R.name
    · have := name_inj h.nd hy hR e
      subst this
      unfold reask
      rw [if_pos (by simp)]
      exact ⟨h3.here, ⟨#[], c, (h3.other _ (Ne.symm hRa.ne)).trans h2.here, ReplyAt.nil⟩, ⟨by simp only; omega, w, rfl, hq.at', fun k h4 h5 => hoth k (fun e => by have := hq.out k (hoR k (.inr e)); simp only at h4; omega) (fun e => by have := hq.out k (hoR k (.inl e)); simp only at h4; omega)⟩, hRa.ne,
        by have := hq.out _ (hoR y.b (.inl rfl)); simp only; omega, by have := hq.out _ (hoR y.m (.inr rfl)); simp only; omega, .inl rfl, hq.short, hq.few⟩
    · unfold reask
      rw [if_neg (by simpa using e)]
      have a1 := h.apS y hy R hR e
      have a2 := h.apS R hR y hy (Ne.symm e)
      refine (h.each y hy).keep (by omega) (hoth _ a1.2.1 a1.1) (hoth _ a1.2.2 (Ne.symm a2.2.1)) (fun k h4 h5 => hoth k ?_ ?_)
      · intro e; exact h.out y hy k (hoR k (.inr e)) ⟨h4, h5⟩
      · intro e; exact h.out y hy k (hoR k (.inl e)) ⟨h4, h5⟩
  · have e : (Rs.map (reask R.name qs qv lo w.heap.size)).map (·.name) = Rs.map (·.name) := by
      rw [List.map_map]
      apply List.map_congr_left
      intro x _
      exact (reask_keeps R.name qs qv lo w.heap.size x).1
    rw [e]; exact h.nd
  · intro x hx
    rw [List.mem_map] at hx
    obtain ⟨y, hy, rfl⟩ := hx
    obtain ⟨_, e2, e3⟩ := reask_keeps R.name qs qv lo w.heap.size y
    rw [e2, e3]; exact h.apB y hy
  · intro x hx x' hx' hne
    rw [List.mem_map] at hx hx'
    obtain ⟨y, hy, rfl⟩ := hx
    obtain ⟨y', hy', rfl⟩ := hx'
    obtain ⟨e1, e2, e3⟩ := reask_keeps R.name qs qv lo w.heap.size y
    obtain ⟨f1, f2, f3⟩ := reask_keeps R.name qs qv lo w.heap.size y'
    rw [e1, f1] at hne
    rw [e2, e3, f2, f3]; exact h.apS y hy y' hy' hne
  · intro x hx k hk
    exact hout x hx k (reask_ow.1 hk)
  · rw [List.length_map]; exact h.few
  · intro x hx
    rw [List.mem_map] at hx
    obtain ⟨y, hy, rfl⟩ := hx
    rw [(reask_keeps R.name qs qv lo w.heap.size y).1]; exact h.short y hy
  · unfold setV
    rw [if_pos (by rw [List.any_eq_true]; exact ⟨R.view, List.mem_map.2 ⟨R, hR, rfl⟩, by simp [RuleP.view]⟩), List.map_map, List.map_map]
    apply List.map_congr_left
    intro x _
    by_cases e : x.name = R.name <;> simp [reask, RuleP.view, e]
  · exact ⟨h3.os.trans h2.os, h3.tape.trans h2.tape, h3.output.trans h2.output, by omega, fun k _ hk => hoth k (fun e => hk (hoR k (.inr e))) (fun e => hk (hoR k (.inl e))), fun k hk => .inl (reask_ow.1 hk)⟩
  · rintro k (hk | ⟨x, hx, h4, h5⟩)
    · exact .inl (.inl (reask_ow.1 hk))
    · rw [List.mem_map] at hx
      obtain ⟨y, hy, rfl⟩ := hx
      unfold reask at h4 h5
      split at h4
      · rename_i he
        exact .inr h4
      · rename_i he
        rw [if_neg he] at h5
        exact .inl (.inr ⟨y, hy, h4, h5⟩)

/-- A rule more. -/
theorem rules_more {w w1 w2 w3 w4 w5 : World} {rr : Nat} {Rs : List RuleP} {n : Str} {qv : Value} {qs : List Qn} {lo c c2 : Nat} {es : Array MapEntry} (h : RulesAt w rr Rs) (hn : ∀ R ∈ Rs, R.name ≠ n) (h8 : Rs.length < 8) (hn8 : n.length ≤ 8) (hq : NewQs w rr Rs qv qs lo)
    (hs1 : w1 = w.alloc (.map #[] 0)) (hs2 : w2 = w1.alloc (.cells #[.slice none 0 0, .map (some w.heap.size)] 179))
    (hh : Holds es (fun x : Str × Nat => SV x.1) (fun x => ptrV x.2) (Rs.map fun R => (R.name, R.b))) (hst : MapKept.Stamped es c)
    (h3 : Set1 w2 w3 rr (.map (es.push { key := SV n, val := ptrV (w.heap.size + 1), born := c }) (c + 1))) (h4 : Set1 w3 w4 w.heap.size (.map #[] c2)) (h5 : Set1 w4 w5 (w.heap.size + 1) (.cells #[qv, .map (some w.heap.size)] 179 (0, 0))) :
    RulesOut lo w rr Rs (setV (Rs.map (·.view)) n qs) w5 := by
  have hz1 : w1.heap.size = w.heap.size + 1 := by rw [hs1]; simp
  have hz2 : w2.heap.size = w.heap.size + 2 := by rw [hs2]; simp [hz1]
  have hz : w5.heap.size = w.heap.size + 2 := by rw [h5.size, h4.size, h3.size, hz2]
  have hb2 : Below w.heap.size w w2 := by
    have b1 : Below w.heap.size w w1 := by rw [hs1]; exact (Below.refl _ _).alloc (Nat.le_refl _) _
    have b2 : Below w1.heap.size w1 w2 := by rw [hs2]; exact (Below.refl _ _).alloc (Nat.le_refl _) _
    exact b1.trans (b2.mono (by omega))
  have hold : ∀ k, k < w.heap.size → k ≠ rr → w5.heap[k]? = w.heap[k]? := fun k h6 h7 => (h5.other k (by omega)).trans ((h4.other k (by omega)).trans ((h3.other k h7).trans (hb2.block k h6)))
  have hrr : rr < w.heap.size := h.lt (.inl (.inl rfl))
  have hlo : ∀ k, Ow rr Rs k → k < w.heap.size := fun k hk => h.lt (.inl hk)
  have hmem : ∀ x, x ∈ Rs ++ [(⟨n, qs, [], w.heap.size + 1, w.heap.size, qv, lo, w.heap.size⟩ : RuleP)] → x ∈ Rs ∨ x = ⟨n, qs, [], w.heap.size + 1, w.heap.size, qv, lo, w.heap.size⟩ := fun x hx => by
    rw [List.mem_append] at hx
    exact hx.imp id (fun h => by simpa using h)
  have how : ∀ k, Ow rr (Rs ++ [(⟨n, qs, [], w.heap.size + 1, w.heap.size, qv, lo, w.heap.size⟩ : RuleP)]) k → Ow rr Rs k ∨ w.heap.size ≤ k := by
    rintro k (hk | ⟨R, hR, hk⟩)
    · exact .inl (.inl hk)
    · rcases hmem R hR with hR | rfl
      · exact .inl (.inr ⟨R, hR, hk⟩)
      · right; simp only at hk; omega
  refine ⟨Rs ++ [⟨n, qs, [], w.heap.size + 1, w.heap.size, qv, lo, w.heap.size⟩], ⟨?_, ?_, ?_, ?_, ?_, ?_, ?_, ?_⟩, ?_, ?_, ?_⟩
  · refine ⟨_, _, (h5.other rr (by omega)).trans ((h4.other rr (by omega)).trans h3.here), ?_⟩
    rw [List.map_append]
    refine ⟨Holds.push (K := fun x : Str × Nat => SV x.1) (V := fun x : Str × Nat => ptrV x.2) hh (x := (n, w.heap.size + 1)) rfl, MapKept.stamped_push hst fun x hx e => ?_⟩
    have h6 : (x.key, x.val) ∈ es.toList.map (fun e => (e.key, e.val)) := List.mem_map.2 ⟨x, hx, rfl⟩
    rw [hh, List.mem_map] at h6
    obtain ⟨y, hy, e2⟩ := h6
    rw [List.mem_map] at hy
    obtain ⟨R, hR, rfl⟩ := hy
    simp only [Prod.mk.injEq] at e2
    rw [← e2.1] at e
    simp at e
    exact hn R hR e
  · intro x hx
    rcases hmem x hx with hx | rfl
    · have hf : ∀ k, Foot rr Rs k → k ≠ rr → w5.heap[k]? = w.heap[k]? := fun k hk hne => hold k (h.lt hk) hne
      exact (h.each x hx).keep (by omega) (hf _ (.inl (.inr ⟨x, hx, .inl rfl⟩)) (h.apB x hx).1) (hf _ (.inl (.inr ⟨x, hx, .inr rfl⟩)) (h.apB x hx).2) (fun k h6 h7 => hf k (.inr ⟨x, hx, h6, h7⟩) (fun e => h.out x hx k (.inl e) ⟨h6, h7⟩))
    · exact ⟨h5.here, ⟨#[], c2, (h5.other _ (by simp only; omega)).trans h4.here, ReplyAt.nil⟩, ⟨by simp only; omega, w, rfl, hq.at', fun k h6 h7 => hold k h7 (fun e => by have := hq.out k (.inl e); simp only at h6; omega)⟩, by simp only; omega,
        by simp only; omega, by simp only; omega, .inl rfl, hq.short, hq.few⟩
  · rw [List.map_append, List.nodup_append]
    refine ⟨h.nd, by simp, ?_⟩
    intro a ha b hb
    simp only [List.mem_map] at ha
    obtain ⟨R, hR, rfl⟩ := ha
    simp at hb
    rw [hb]; exact hn R hR
  · intro x hx
    rcases hmem x hx with hx | rfl
    · exact h.apB x hx
    · simp only; omega
  · intro x hx x' hx' hne
    have hl : ∀ y ∈ Rs, y.b < w.heap.size ∧ y.m < w.heap.size := fun y hy => ⟨hlo _ (.inr ⟨y, hy, .inl rfl⟩), hlo _ (.inr ⟨y, hy, .inr rfl⟩)⟩
    rcases hmem x hx with hx | rfl <;> rcases hmem x' hx' with hx' | rfl
    · exact h.apS x hx x' hx' hne
    · have := hl x hx; simp only; omega
    · have := hl x' hx'; simp only; omega
    · exact absurd rfl hne
  · intro x hx k hk
    rcases hmem x hx with hx | rfl
    · rcases how k hk with hk | hk
      · exact h.out x hx k hk
      · have := (h.each x hx).asked.1; omega
    · rcases how k hk with hk | hk
      · have := hq.out k hk; simp only; omega
      · simp only; omega
  · simp; omega
  · intro x hx
    rcases hmem x hx with hx | rfl
    · exact h.short x hx
    · exact hn8
  · unfold setV
    rw [if_neg, List.map_append]
    · rfl
    · rw [List.any_eq_true]
      rintro ⟨v, hv, e⟩
      simp only [List.mem_map] at hv
      obtain ⟨R, hR, rfl⟩ := hv
      exact hn R hR (by simpa [RuleP.view] using e)
  · refine ⟨?_, ?_, ?_, by omega, fun k h6 h7 => hold k h6 (fun e => h7 (.inl e)), fun k hk => how k hk⟩
    · rw [h5.os, h4.os, h3.os]; exact hb2.os
    · rw [h5.tape, h4.tape, h3.tape]; exact hb2.tape
    · rw [h5.output, h4.output, h3.output]; exact hb2.output
  · rintro k (hk | ⟨x, hx, h6, h7⟩)
    · rcases how k hk with hk | hk
      · exact .inl (.inl hk)
      · exact .inr (by have := hq.le; omega)
    · rcases hmem x hx with hx | rfl
      · exact .inl (.inr ⟨x, hx, h6, h7⟩)
      · exact .inr h6

end Go.Proofs.YtdcbgfhkfmohiaaGreatDoor

/- setRule. -/
namespace Go.Proofs.YtdcbgfhkfmohiaaGreatDoor
open Go.RowKit
attribute [local go_sem] Oper.semAt_some

theorem cells_set0 {w : World} {b : Nat} {x y : Value} {t : TypeId} (h : w.heap[b]? = some (.cells #[x, y] t (0, 0))) (v : Value) : Set1 w (w.setCell ⟨b, 0, none⟩ v) b (.cells #[v, y] t (0, 0)) := setCell_set1 h _

set_option maxHeartbeats 8000000 in
set_option maxRecDepth 50000 in
theorem setRule_found (sb rr : Nat) (Rs : List RuleP) (R : RuleP) (qv : Value) (qs : List Qn) (lo : Nat) (w : World) (hs : w.cell? ⟨sb, 5, none⟩ = some (.map (some rr))) (h : RulesAt w rr Rs) (hR : R ∈ Rs) (hq : NewQs w rr Rs qv qs lo) :
    Calls Tryz.prog 60 #[ptrV sb, SV R.name, qv] w fun e w' => e = .returned (.tuple #[]) ∧ RulesOut lo w rr Rs (setV (Rs.map (·.view)) R.name qs) w' := by
  have LE := rules_find h hR
  obtain ⟨es, c, hm, ha⟩ := (h.each R hR).amap
  obtain ⟨w2, h2, hs2⟩ := run_clear_map (w := w) Tryz.underlying177 hm 0
  have c1 : w.cell? ⟨R.b, 1, none⟩ = some (.map (some R.m)) := (blk_cell (h.each R hR).cell 1).trans rfl
  have hb2 : w2.heap[R.b]? = some (.cells #[R.v, .map (some R.m)] 179 (0, 0)) := (hs2.other _ (h.each R hR).ne).trans (h.each R hR).cell
  obtain ⟨ao', n', cp', hv⟩ := qs_form (h.each R hR).asked.at'
  have c0 : w2.cell? ⟨R.b, 0, none⟩ = some (.slice ao' n' cp') := by rw [← hv]; exact (blk_cell hb2 0).trans rfl
  have f0 : w2.frozen? ⟨R.b, 0, none⟩ = false := blk_free hb2 0
  have RR : Hid (RulesOut lo w rr Rs (setV (Rs.map (·.view)) R.name qs) (w2.setCell ⟨R.b, 0, none⟩ qv)) := rules_change h hR hq hs2 (cells_set0 hb2 qv)
  obtain ⟨ao, n, cp, rfl⟩ := qs_form hq.at'
  clear hm ha hq h hR hs2 hb2 hv
  go_enter Tryz.func60, Tryz.ntmps60
  go_wp2
  go_end0
  exact ⟨rfl, RR.out⟩

set_option maxHeartbeats 8000000 in
set_option maxRecDepth 50000 in
theorem setRule_new (sb rr : Nat) (Rs : List RuleP) (nm : Str) (qv : Value) (qs : List Qn) (lo : Nat) (w : World) (hs : w.cell? ⟨sb, 5, none⟩ = some (.map (some rr))) (h : RulesAt w rr Rs) (hn : ∀ R ∈ Rs, R.name ≠ nm) (h8 : Rs.length < 8) (hn8 : nm.length ≤ 8) (hq : NewQs w rr Rs qv qs lo) :
    Calls Tryz.prog 60 #[ptrV sb, SV nm, qv] w fun e w' => e = .returned (.tuple #[]) ∧ RulesOut lo w rr Rs (setV (Rs.map (·.view)) nm qs) w' := by
  have LE := rules_none h hn
  have hsl : sb < w.heap.size := World.block_lt_of_cell? w _ hs
  obtain ⟨w1, hw1⟩ : ∃ w1, w1 = w.alloc (.map #[] 0) := ⟨_, rfl⟩
  have hz1 : w1.heap.size = w.heap.size + 1 := by rw [hw1]; simp
  obtain ⟨w2, hw2⟩ : ∃ w2, w2 = w1.alloc (.cells #[.slice none 0 0, .map (some w.heap.size)] 179) := ⟨_, rfl⟩
  have hb1 : Below w.heap.size w w1 := by rw [hw1]; exact (Below.refl _ _).alloc (Nat.le_refl _) _
  have hb2 : Below w1.heap.size w1 w2 := by rw [hw2]; exact (Below.refl _ _).alloc (Nat.le_refl _) _
  have hb : Below w.heap.size w w2 := hb1.trans (hb2.mono (by omega))
  have s5 : w2.cell? ⟨sb, 5, none⟩ = some (.map (some rr)) := (hb.cell (p := ⟨sb, 5, none⟩) hsl).trans hs
  obtain ⟨es, c, hm, hh, hst⟩ := h.map
  have hrr : rr < w.heap.size := (Array.getElem?_eq_some_iff.1 hm).1
  have hm2 : w2.heap[rr]? = some (.map es c) := (hb.block _ hrr).trans hm
  obtain ⟨hf, hout⟩ := rules_finds_no (W := w2) h hh hn
  obtain ⟨w3, hu3, hs3⟩ := run_mapUpdate_new (w := w2) Tryz.underlying85 hm2 hf hout (ptrV (w.heap.size + 1))
  have hn1 : w2.heap[w.heap.size]? = some (.map #[] 0) := by
    rw [hb2.block _ (by omega), hw1]; exact heap_alloc_new w _
  have hn2 : w2.heap[w.heap.size + 1]? = some (.cells #[.slice none 0 0, .map (some w.heap.size)] 179 (0, 0)) := by
    rw [← hz1, hw2, hz1]; exact (by rw [← hz1]; exact heap_alloc_new w1 _)
  have hn3 : w3.heap[w.heap.size]? = some (.map #[] 0) := (hs3.other _ (by omega)).trans hn1
  have hn4 : w3.heap[w.heap.size + 1]? = some (.cells #[.slice none 0 0, .map (some w.heap.size)] 179 (0, 0)) := (hs3.other _ (by omega)).trans hn2
  have c1 : w3.cell? ⟨w.heap.size + 1, 1, none⟩ = some (.map (some w.heap.size)) := (blk_cell hn4 1).trans rfl
  obtain ⟨w4, hu4, hs4⟩ := run_clear_map (w := w3) Tryz.underlying177 hn3 0
  have hn5 : w4.heap[w.heap.size + 1]? = some (.cells #[.slice none 0 0, .map (some w.heap.size)] 179 (0, 0)) := (hs4.other _ (by omega)).trans hn4
  have c0 : w4.cell? ⟨w.heap.size + 1, 0, none⟩ = some (.slice none 0 0) := (blk_cell hn5 0).trans rfl
  have f0 : w4.frozen? ⟨w.heap.size + 1, 0, none⟩ = false := blk_free hn5 0
  have RR : Hid (RulesOut lo w rr Rs (setV (Rs.map (·.view)) nm qs) (w4.setCell ⟨w.heap.size + 1, 0, none⟩ qv)) := rules_more h hn h8 hn8 hq hw1 hw2 hh hst hs3 hs4 (cells_set0 hn5 qv)
  obtain ⟨ao, n, cp, rfl⟩ := qs_form hq.at'
  have hmm := @run_makeMap Tryz.prog
  have HW1 : Hid _ := hw1
  have HW2 : Hid _ := hw2
  clear hst hm hh hq h hs3 hs4 hn1 hn2 hn3 hn4 hn5 hf hout hm2 hb hb1 hb2 hn h8 hw1 hw2
  go_enter Tryz.func60, Tryz.ntmps60
  go_upto_region 3 with fail
  rw [← HW1.out, ← HW2.out]
  go_wp2
  go_end0
  exact ⟨rfl, RR.out⟩

end Go.Proofs.YtdcbgfhkfmohiaaGreatDoor

/- Rule: the program's call. -/
namespace Go.Proofs.YtdcbgfhkfmohiaaGreatDoor
open Go.RowKit
attribute [local go_sem] Oper.semAt_some

/-- The questions of these texts, which have no fault. -/
def qnsL (xs : List Str) : List Qn := xs.map fun x => (qnOf (splitL 32 x)).getD (.ex none)
theorem qns_eq {xs : List Str} {qs : List Qn} (h : QnsOf xs qs) : qs = qnsL xs := by
  have := congrArg (List.map fun o : Option Qn => o.getD (.ex none)) h.1
  rw [List.map_map, List.map_map] at this
  unfold qnsL
  rw [show (fun x : Str => (qnOf (splitL 32 x)).getD (.ex none)) = ((fun o : Option Qn => o.getD (.ex none)) ∘ fun x => qnOf (splitL 32 x)) from rfl, ← this]
  rw [show ((fun o : Option Qn => o.getD (.ex none)) ∘ some) = id from rfl, List.map_id]

def ruleE (V : List RView) (n : Str) (xs : List Str) : Nat :=
  if isNameL n false then (if 6 < xs.length ∨ (V.any (·.name == n) = false ∧ 8 ≤ V.length) then 7 else checkAll xs) else 3
def ruleV (V : List RView) (n : Str) (xs : List Str) : List RView :=
  if ruleE V n xs = 0 then (if xs = [] then V.filter (fun x => !(x.name == n)) else setV V n (qnsL xs)) else V

def RuleOut (w : World) (rr : Nat) (Rs : List RuleP) (n : Str) (xs : List Str) (e : Ending) (w' : World) : Prop :=
  e = .returned (.int .i64 (ruleE (Rs.map (·.view)) n xs)) ∧ RulesOut w.heap.size w rr Rs (ruleV (Rs.map (·.view)) n xs) w'

theorem RulesAt.same {w w' : World} {rr : Nat} {Rs : List RuleP} (h : RulesAt w rr Rs) (hb : Below w.heap.size w w') : RulesOut w.heap.size w rr Rs (Rs.map (·.view)) w' :=
  ⟨Rs, h.below hb, rfl, Turn.of_below hb, fun _ hk => .inl hk⟩
theorem rule_bad {w w' : World} {rr : Nat} {Rs : List RuleP} {n : Str} {xs : List Str} {k : Nat} (h : RulesAt w rr Rs) (hb : Below w.heap.size w w') (he : ruleE (Rs.map (·.view)) n xs = k) (hk : k ≠ 0) : RuleOut w rr Rs n xs (.returned (.int .i64 k)) w' := by
  refine ⟨by rw [he], ?_⟩
  rw [ruleV, if_neg (by omega)]
  exact h.same hb
theorem RulesOut.after {w w1 w2 : World} {rr : Nat} {Rs : List RuleP} {V : List RView} (hb : Below w.heap.size w w1) (h : RulesOut w.heap.size w1 rr Rs V w2) : RulesOut w.heap.size w rr Rs V w2 := by
  obtain ⟨Rs', h1, h2, h3, h4⟩ := h
  exact ⟨Rs', h1, h2, (Turn.of_below hb).trans h3, h4⟩

theorem ow_filter {rr : Nat} {Rs : List RuleP} {p : RuleP → Bool} {k : Nat} (h : Ow rr (Rs.filter p) k) : Ow rr Rs k := by
  rcases h with h | ⟨R, hR, h⟩
  · exact .inl h
  · exact .inr ⟨R, (List.mem_filter.1 hR).1, h⟩
theorem erase_name {Rs : List RuleP} (hnd : (Rs.map (·.name)).Nodup) {n : Str} {j : Nat} {R : RuleP} (hj : Rs[j]? = some R) (hn : R.name = n) : Rs.eraseIdx j = Rs.filter (fun x => !(x.name == n)) := by
  induction Rs generalizing j with
  | nil => simp at hj
  | cons a l ih =>
    simp only [List.map_cons, List.nodup_cons, List.mem_map, not_exists, not_and] at hnd
    cases j with
    | zero =>
      simp at hj; subst hj
      rw [List.eraseIdx_zero, List.tail_cons, List.filter_cons, if_neg (by simp [hn])]
      symm; rw [List.filter_eq_self]
      intro x hx
      have := hnd.1 x hx
      simp; intro e; exact this (by rw [e, hn])
    | succ j =>
      simp only [List.getElem?_cons_succ] at hj
      rw [List.eraseIdx_cons_succ, List.filter_cons, if_pos, ih hnd.2 hj]
      have := hnd.1 R (List.mem_of_getElem? hj)
      simp; intro e; exact this (by rw [hn, e])
theorem rules_less {w w2 : World} {rr : Nat} {Rs : List RuleP} {n : Str} {es : Array MapEntry} {c : Nat} (h : RulesAt w rr Rs) (h2 : Set1 w w2 rr (.map es c)) (hh : Holds es (fun x : Str × Nat => SV x.1) (fun x => ptrV x.2) ((Rs.filter (fun x => !(x.name == n))).map fun R => (R.name, R.b))) (hst : MapKept.Stamped es c) (N : Nat) :
    RulesOut N w rr Rs ((Rs.map (·.view)).filter (fun x => !(x.name == n))) w2 := by
  refine ⟨Rs.filter (fun x => !(x.name == n)), ⟨⟨es, c, h2.here, hh, hst⟩, ?_, ?_, ?_, ?_, ?_, ?_, ?_⟩, ?_, ?_, ?_⟩
  · intro R hR
    have hR := (List.mem_filter.1 hR).1
    exact (h.each R hR).keep (Nat.le_of_eq h2.size.symm) (h2.other _ (h.apB R hR).1) (h2.other _ (h.apB R hR).2) (fun k h4 h5 => h2.other k (fun e => h.out R hR k (.inl e) ⟨h4, h5⟩))
  · exact (List.Sublist.map _ List.filter_sublist).nodup h.nd
  · exact fun R hR => h.apB R (List.mem_filter.1 hR).1
  · exact fun R hR R' hR' => h.apS R (List.mem_filter.1 hR).1 R' (List.mem_filter.1 hR').1
  · exact fun R hR k hk => h.out R (List.mem_filter.1 hR).1 k (ow_filter hk)
  · exact Nat.le_trans (List.length_filter_le _ _) h.few
  · exact fun R hR => h.short R (List.mem_filter.1 hR).1
  · rw [List.filter_map]; rfl
  · exact ⟨h2.os, h2.tape, h2.output, Nat.le_of_eq h2.size.symm, fun k _ hk => h2.other k (fun e => hk (.inl e)), fun k hk => .inl (ow_filter hk)⟩
  · rintro k (hk | ⟨R, hR, h4, h5⟩)
    · exact .inl (.inl (ow_filter hk))
    · exact .inl (.inr ⟨R, (List.mem_filter.1 hR).1, h4, h5⟩)

theorem run_delete_out {α : Type} {w : World} {t kt et : TypeId} {key : Value} {es : Array MapEntry} {V : α → Value} {L : List α} {x0 : α} {r clock : Nat} (hu : Tryz.prog.underlying t = some (.map kt et)) (hb : w.heap[r]? = some (.map es clock)) (hf : Finds w kt key es V L x0) (hout : x0 ∉ L) (ty : TypeId) :
    ∃ w', (Builtin.delete_ #[t, kt] ty #[.map (some r), key]).run Tryz.prog w = .ok (.tuple #[]) w' ∧ Set1 w w' r (.map es clock) := by
  rcases hf.2 with ⟨_, h2⟩ | ⟨j, h1, _⟩
  · exact ⟨_, by simp [Builtin.delete_, run_underlying hu, MapKept.run_getObj_map hb, hf.1, h2, MapKept.run_setObj_map _ hb, Result.andThen], set1_of hb⟩
  · exact absurd (List.mem_of_getElem? h1) hout

/-- Giving a rule up. -/
theorem rules_drop {w : World} {rr : Nat} {Rs : List RuleP} (h : RulesAt w rr Rs) (n : Str) (N : Nat) :
    ∃ w2, (Builtin.delete_ #[85, 9] 0 #[.map (some rr), SV n]).run Tryz.prog w = .ok (.tuple #[]) w2 ∧ RulesOut N w rr Rs ((Rs.map (·.view)).filter (fun x => !(x.name == n))) w2 := by
  obtain ⟨es, c, hm, hh, hst⟩ := h.map
  by_cases hin : ∃ R ∈ Rs, R.name = n
  · obtain ⟨R, hR, rfl⟩ := hin
    obtain ⟨w2, j, hj, h1, h2⟩ := run_delete_in (V := fun x : Str × Nat => ptrV x.2) (x0 := (R.name, R.b)) Tryz.underlying85 hm (finds_str (w := w) (g := fun x : Str × Nat => x.1) (x0 := (R.name, R.b)) hh (fun x hx e => by
      simp only [List.mem_map] at hx
      obtain ⟨R', hR', rfl⟩ := hx
      rw [name_inj h.nd hR hR' e])) (List.mem_map.2 ⟨R, hR, rfl⟩) 0
    refine ⟨w2, h1, rules_less h h2 ?_ (MapKept.stamped_erase hst j) N⟩
    rw [List.getElem?_map, Option.map_eq_some_iff] at hj
    obtain ⟨R', hR', e⟩ := hj
    have := Holds.erase hh j
    rw [← map_erase, erase_name h.nd hR' (by simpa using congrArg Prod.fst e)] at this
    exact this
  · have hn : ∀ R ∈ Rs, R.name ≠ n := fun R hR e => hin ⟨R, hR, e⟩
    obtain ⟨h5, h6⟩ := rules_finds_no (W := w) h hh hn
    obtain ⟨w2, h7, h8⟩ := run_delete_out Tryz.underlying85 hm h5 h6 0
    have e : Rs.filter (fun x => !(x.name == n)) = Rs := by
      rw [List.filter_eq_self]
      intro R hR
      have := hn R hR
      simp [this]
    exact ⟨w2, h7, rules_less h h8 (by rw [e]; exact hh) hst N⟩

end Go.Proofs.YtdcbgfhkfmohiaaGreatDoor

/- Rule: the program's call, whole. -/
namespace Go.Proofs.YtdcbgfhkfmohiaaGreatDoor
open Go.RowKit
attribute [local go_sem] Oper.semAt_some

theorem name_len {n : Str} (h : isNameL n false = true) : n.length ≤ 8 := by
  unfold isNameL at h
  simp at h
  omega
theorem any_view {Rs : List RuleP} {n : Str} : (Rs.map (·.view)).any (·.name == n) = Rs.any (·.name == n) := by
  rw [List.any_map]; rfl
theorem len_rules {w : World} {rr : Nat} {Rs : List RuleP} (h : RulesAt w rr Rs) : (Builtin.len_ #[85] 3 #[.map (some rr)]).run Tryz.prog w = .ok (.int .i64 Rs.length) w := by
  obtain ⟨es, c, hm, hh, _⟩ := h.map
  rw [run_lenMap Tryz.underlying85 hm, hh.len, List.length_map]
  rfl

set_option maxHeartbeats 8000000 in
set_option maxRecDepth 50000 in
theorem storeRule_any (sb rr : Nat) (Rs : List RuleP) (nm : Str) (xs : List Str) (nv : Value) (w : World) (hs : w.cell? ⟨sb, 5, none⟩ = some (.map (some rr))) (h : RulesAt w rr Rs) (hn : NamesAt w nv xs) (hmx : MaxOk w) (hl : nm.length ≤ maxLen) :
    Calls Tryz.prog 37 #[ptrV sb, SV nm, nv] w fun e w' => RuleOut w rr Rs nm xs e w' := by
  have CN := prgIsName_any nm w hl
  have HR : Hid _ := h
  have HNA : Hid _ := hn
  have HMX : Hid _ := hmx
  obtain ⟨ao, cap, rfl, hcap, hmaxl, _⟩ := id hn
  clear h hn hmx
  cases hname : isNameL nm false
  · rw [hname] at CN
    have RB : Hid (RuleOut w rr Rs nm xs (.returned (.int .i64 (3 : Nat))) w) := rule_bad HR.out (Below.refl _ _) (by rw [ruleE, if_neg (by rw [hname]; simp)]) (by omega)
    clear HR HNA HMX
    go_enter Tryz.func37, Tryz.ntmps37
    go_wp2_with (go_at_call 58; refine CN.mono ?_; rintro e w ⟨rfl, rfl⟩)
    go_ret
    exact RB.out
  rw [hname] at CN
  by_cases h6 : 6 < xs.length
  · have h6i : (6 : Int) < (xs.length : Int) := by omega
    have RB : Hid (RuleOut w rr Rs nm xs (.returned (.int .i64 (7 : Nat))) w) := rule_bad HR.out (Below.refl _ _) (by rw [ruleE, if_pos hname, if_pos (.inl h6)]) (by omega)
    clear HR HNA HMX hname
    go_enter Tryz.func37, Tryz.ntmps37
    go_wp2_with (go_at_call 58; refine CN.mono ?_; rintro e w ⟨rfl, rfl⟩)
    go_ret
    exact RB.out
  have h6i : ¬ (6 : Int) < (xs.length : Int) := by omega
  have CP : Hid (Calls Tryz.prog 59 #[.slice ao xs.length cap] w fun e w' => ParseAllOut w xs e w') := parseAll_any xs _ w HNA.out (by omega) HMX.out
  by_cases hin : ∃ R ∈ Rs, R.name = nm
  · obtain ⟨R, hR, rfl⟩ := hin
    have LE := rules_find HR.out hR
    have HE : Hid (ruleE (Rs.map (·.view)) R.name xs = checkAll xs) := by
      rw [Hid, ruleE, if_pos hname, if_neg]
      rintro (h | ⟨h, _⟩)
      · exact h6 h
      · rw [any_view, List.any_eq_false] at h
        exact h R hR (by simp)
    clear hname HNA HMX
    go_enter Tryz.func37, Tryz.ntmps37
    go_wp2_with (go_at_call 58; refine CN.mono ?_; rintro e w ⟨rfl, rfl⟩)
    go_wp2_with fail
    refine Calls.mono (show Calls _ _ _ _ _ from CP.out) ?_
    rintro e w1 ⟨hb1, hp⟩
    have HB1 : Hid _ := hb1
    have HR1 : Hid (RulesAt w1 rr Rs) := HR.out.below hb1
    have s51 : w1.cell? ⟨sb, 5, none⟩ = some (.map (some rr)) := (hb1.cell (p := ⟨sb, 5, none⟩) (World.block_lt_of_cell? w _ hs)).trans hs
    rcases hp with ⟨hc, rfl⟩ | ⟨hc, hok, v, qs, rfl, hQ, hv⟩
    · have RB : Hid (RuleOut w rr Rs R.name xs (.returned (.int .i64 (checkAll xs : Nat))) w1) := rule_bad HR.out hb1 (HE.out) hc
      have hc' : ¬ (checkAll xs : Int) = 0 := by omega
      clear hc hb1 CP LE hs s51
      generalize (checkAll xs : Int) = ce at *
      go_wp2
      go_ret
      exact RB.out
    · have hl := hQ.len
      have he0 : ruleE (Rs.map (·.view)) R.name xs = 0 := by rw [HE.out, hc]
      obtain ⟨ao2, n2, c2, rfl⟩ := qs_form hv
      obtain ⟨rfl, _, _, _⟩ := qs_cells hv
      by_cases hx : xs = []
      · have hl0 : qs.length = 0 := by rw [hl, hx]; rfl
        obtain ⟨w2, hd, hro⟩ := rules_drop HR1.out R.name w.heap.size
        have RB : Hid (RuleOut w rr Rs R.name xs (.returned (.int .i64 0)) w2) := ⟨by rw [he0]; rfl, by rw [ruleV, if_pos he0, if_pos hx]; exact RulesOut.after HB1.out hro⟩
        rw [hl0]
        clear hc hok hb1 CP LE hs hQ hv hro hx hl hl0 he0
        go_wp2
        go_ret
        exact RB.out
      · have hx0 : ¬ (qs.length : Int) = 0 := by
          intro e
          have : xs.length = 0 := by omega
          exact hx (List.length_eq_zero_iff.1 this)
        have hq : NewQs w1 rr Rs (.slice ao2 qs.length c2) qs w.heap.size := by
          refine ⟨hv, hb1.size, fun k hk => HR.out.lt (.inl hk), fun q hq => ?_, fun e => ?_, by omega⟩
          · obtain ⟨j, hj, rfl⟩ := List.getElem_of_mem hq
            have h1 := congrArg (fun l => l[j]?) hQ.1
            simp only [List.getElem?_map, List.getElem?_eq_getElem hj, Option.map_some] at h1
            rw [List.getElem?_eq_getElem (by omega), Option.map_some, Option.some.injEq] at h1
            have h60 := (check_ok (hok _ (List.getElem_mem (show j < xs.length by omega)))).1
            exact short_qn (fun x hx => by have := splitL_piece 32 _ x hx; omega) h1.symm (hQ.2 _ (List.getElem_mem hj))
          · rw [e] at hl; exact hx (List.length_eq_zero_iff.1 hl.symm)
        have CS : Hid (Calls Tryz.prog 60 #[ptrV sb, SV R.name, .slice ao2 qs.length c2] w1 fun e w' => e = .returned (.tuple #[]) ∧ RulesOut w.heap.size w1 rr Rs (setV (Rs.map (·.view)) R.name qs) w') := setRule_found sb rr Rs R _ qs w.heap.size w1 s51 HR1.out hR hq
        have RB : Hid (∀ w2, RulesOut w.heap.size w1 rr Rs (setV (Rs.map (·.view)) R.name qs) w2 → RuleOut w rr Rs R.name xs (.returned (.int .i64 0)) w2) := fun w2 h2 => ⟨by rw [he0]; rfl, by rw [ruleV, if_pos he0, if_neg hx, ← qns_eq hQ]; exact RulesOut.after HB1.out h2⟩
        clear hc hok hb1 CP LE hs hQ hv hx hl he0 hq s51
        go_wp2_with fail
        refine Calls.mono (show Calls _ _ _ _ _ from CS.out) ?_
        rintro e w2 ⟨rfl, h2⟩
        have RB2 : Hid _ := RB.out w2 h2
        clear h2 RB CS
        go_wp2
        go_ret
        exact RB2.out
  · have hno : ∀ R ∈ Rs, R.name ≠ nm := fun R hR e => hin ⟨R, hR, e⟩
    have hany : (Rs.map (·.view)).any (·.name == nm) = false := by
      rw [any_view, List.any_eq_false]
      intro R hR e
      exact hno R hR (by simpa using e)
    have LE := rules_none HR.out hno
    have LN := len_rules HR.out
    by_cases h8 : 8 ≤ Rs.length
    · have h8i : (8 : Int) ≤ (Rs.length : Int) := by omega
      have RB : Hid (RuleOut w rr Rs nm xs (.returned (.int .i64 (7 : Nat))) w) := rule_bad HR.out (Below.refl _ _) (by rw [ruleE, if_pos hname, if_pos (.inr ⟨hany, by rw [List.length_map]; exact h8⟩)]) (by omega)
      clear HR HNA HMX hname hno hany CP hin
      go_enter Tryz.func37, Tryz.ntmps37
      go_wp2_with (go_at_call 58; refine CN.mono ?_; rintro e w ⟨rfl, rfl⟩)
      go_ret
      exact RB.out
    have h8i : ¬ (8 : Int) ≤ (Rs.length : Int) := by omega
    have HE : Hid (ruleE (Rs.map (·.view)) nm xs = checkAll xs) := by
      rw [Hid, ruleE, if_pos hname, if_neg]
      rintro (h | ⟨_, h⟩)
      · exact h6 h
      · rw [List.length_map] at h; exact h8 h
    have HNO : Hid (∀ R ∈ Rs, R.name ≠ nm) := hno
    have HN8 : Hid (nm.length ≤ 8) := name_len hname
    clear hname HNA HMX hno hany hin
    go_enter Tryz.func37, Tryz.ntmps37
    go_wp2_with (go_at_call 58; refine CN.mono ?_; rintro e w ⟨rfl, rfl⟩)
    go_wp2_with fail
    refine Calls.mono (show Calls _ _ _ _ _ from CP.out) ?_
    rintro e w1 ⟨hb1, hp⟩
    have HB1 : Hid _ := hb1
    have HR1 : Hid (RulesAt w1 rr Rs) := HR.out.below hb1
    have s51 : w1.cell? ⟨sb, 5, none⟩ = some (.map (some rr)) := (hb1.cell (p := ⟨sb, 5, none⟩) (World.block_lt_of_cell? w _ hs)).trans hs
    rcases hp with ⟨hc, rfl⟩ | ⟨hc, hok, v, qs, rfl, hQ, hv⟩
    · have RB : Hid (RuleOut w rr Rs nm xs (.returned (.int .i64 (checkAll xs : Nat))) w1) := rule_bad HR.out hb1 (HE.out) hc
      have hc' : ¬ (checkAll xs : Int) = 0 := by omega
      clear hc hb1 CP LE hs s51
      generalize (checkAll xs : Int) = ce at *
      go_wp2
      go_ret
      exact RB.out
    · have hl := hQ.len
      have he0 : ruleE (Rs.map (·.view)) nm xs = 0 := by rw [HE.out, hc]
      obtain ⟨ao2, n2, c2, rfl⟩ := qs_form hv
      obtain ⟨rfl, _, _, _⟩ := qs_cells hv
      by_cases hx : xs = []
      · have hl0 : qs.length = 0 := by rw [hl, hx]; rfl
        obtain ⟨w2, hd, hro⟩ := rules_drop HR1.out nm w.heap.size
        have RB : Hid (RuleOut w rr Rs nm xs (.returned (.int .i64 0)) w2) := ⟨by rw [he0]; rfl, by rw [ruleV, if_pos he0, if_pos hx]; exact RulesOut.after HB1.out hro⟩
        rw [hl0]
        clear hc hok hb1 CP LE hs hQ hv hro hx hl hl0 he0
        go_wp2
        go_ret
        exact RB.out
      · have hx0 : ¬ (qs.length : Int) = 0 := by
          intro e
          have : xs.length = 0 := by omega
          exact hx (List.length_eq_zero_iff.1 this)
        have hq : NewQs w1 rr Rs (.slice ao2 qs.length c2) qs w.heap.size := by
          refine ⟨hv, hb1.size, fun k hk => HR.out.lt (.inl hk), fun q hq => ?_, fun e => ?_, by omega⟩
          · obtain ⟨j, hj, rfl⟩ := List.getElem_of_mem hq
            have h1 := congrArg (fun l => l[j]?) hQ.1
            simp only [List.getElem?_map, List.getElem?_eq_getElem hj, Option.map_some] at h1
            rw [List.getElem?_eq_getElem (by omega), Option.map_some, Option.some.injEq] at h1
            have h60 := (check_ok (hok _ (List.getElem_mem (show j < xs.length by omega)))).1
            exact short_qn (fun x hx => by have := splitL_piece 32 _ x hx; omega) h1.symm (hQ.2 _ (List.getElem_mem hj))
          · rw [e] at hl; exact hx (List.length_eq_zero_iff.1 hl.symm)
        have CS : Hid (Calls Tryz.prog 60 #[ptrV sb, SV nm, .slice ao2 qs.length c2] w1 fun e w' => e = .returned (.tuple #[]) ∧ RulesOut w.heap.size w1 rr Rs (setV (Rs.map (·.view)) nm qs) w') := setRule_new sb rr Rs nm _ qs w.heap.size w1 s51 HR1.out HNO.out (by omega) HN8.out hq
        have RB : Hid (∀ w2, RulesOut w.heap.size w1 rr Rs (setV (Rs.map (·.view)) nm qs) w2 → RuleOut w rr Rs nm xs (.returned (.int .i64 0)) w2) := fun w2 h2 => ⟨by rw [he0]; rfl, by rw [ruleV, if_pos he0, if_neg hx, ← qns_eq hQ]; exact RulesOut.after HB1.out h2⟩
        clear hc hok hb1 CP LE hs hQ hv hx hl he0 hq s51
        go_wp2_with fail
        refine Calls.mono (show Calls _ _ _ _ _ from CS.out) ?_
        rintro e w2 ⟨rfl, h2⟩
        have RB2 : Hid _ := RB.out w2 h2
        clear h2 RB CS
        go_wp2
        go_ret
        exact RB2.out

end Go.Proofs.YtdcbgfhkfmohiaaGreatDoor

/- Plan: one rule built. -/
namespace Go.Proofs.YtdcbgfhkfmohiaaGreatDoor
open Go.RowKit

def told (n : Str) (a : List Str) (x : RuleP) : RuleP := if x.name == n then { x with ans := a } else x
theorem told_keeps (n : Str) (a : List Str) (x : RuleP) : (told n a x).name = x.name ∧ (told n a x).b = x.b ∧ (told n a x).m = x.m ∧ (told n a x).qs = x.qs ∧ (told n a x).lo = x.lo ∧ (told n a x).hi = x.hi ∧ (told n a x).v = x.v := by
  unfold told; split <;> simp
theorem told_ow {n : Str} {a : List Str} {rr : Nat} {Rs : List RuleP} {k : Nat} : Ow rr (Rs.map (told n a)) k ↔ Ow rr Rs k := by
  unfold Ow
  constructor
  · rintro (h | ⟨R, hR, h⟩)
    · exact .inl h
    · rw [List.mem_map] at hR
      obtain ⟨x, hx, rfl⟩ := hR
      obtain ⟨_, h2, h3, _⟩ := told_keeps n a x
      rw [h2, h3] at h
      exact .inr ⟨x, hx, h⟩
  · rintro (h | ⟨R, hR, h⟩)
    · exact .inl h
    · obtain ⟨_, h2, h3, _⟩ := told_keeps n a R
      exact .inr ⟨_, List.mem_map.2 ⟨R, hR, rfl⟩, by rw [h2, h3]; exact h⟩
theorem rules_told {w w' : World} {rr : Nat} {Rs : List RuleP} {R : RuleP} {a : List Str} (h : RulesAt w rr Rs) (hR : R ∈ Rs) (hA : RuleAt w' { R with ans := a }) (ht : Turn (fun k => k = R.m) w w' (fun k => k = R.m)) : RulesAt w' rr (Rs.map (told R.name a)) := by
  have hoth : ∀ k, Foot rr Rs k → k ≠ R.m → w'.heap[k]? = w.heap[k]? := fun k hk hne => ht.blk k (h.lt hk) hne
  refine ⟨?_, ?_, ?_, ?_, ?_, ?_, ?_, ?_⟩
  · obtain ⟨es, c, h4, h5⟩ := h.map
    refine ⟨es, c, (hoth rr (.inl (.inl rfl)) (Ne.symm (h.apB R hR).2)).trans h4, ?_⟩
    have e : (Rs.map (told R.name a)).map (fun R => (R.name, R.b)) = Rs.map (fun R => (R.name, R.b)) := by
      rw [List.map_map]
      apply List.map_congr_left
      intro x _
      obtain ⟨e1, e2, _⟩ := told_keeps R.name a x
      simp only [Function.comp, e1, e2]
    rw [e]; exact h5
  · intro x hx
    rw [List.mem_map] at hx
    obtain ⟨y, hy, rfl⟩ := hx
    by_cases e : y.name = R.name
    · have := name_inj h.nd hy hR e
      subst this
      unfold told
      rw [if_pos (by simp)]
      exact hA
    · unfold told
      rw [if_neg (by simpa using e)]
      have a1 := h.apS y hy R hR e
      refine (h.each y hy).keep ht.size (hoth _ (.inl (.inr ⟨y, hy, .inl rfl⟩)) a1.2.1) (hoth _ (.inl (.inr ⟨y, hy, .inr rfl⟩)) a1.2.2) (fun k h4 h5 => hoth k (.inr ⟨y, hy, h4, h5⟩) (fun e => h.out y hy k (.inr ⟨R, hR, .inr e⟩) ⟨h4, h5⟩))
  · have e : (Rs.map (told R.name a)).map (·.name) = Rs.map (·.name) := by
      rw [List.map_map]
      apply List.map_congr_left
      intro x _
      exact (told_keeps R.name a x).1
    rw [e]; exact h.nd
  · intro x hx
    rw [List.mem_map] at hx
    obtain ⟨y, hy, rfl⟩ := hx
    obtain ⟨_, e2, e3, _⟩ := told_keeps R.name a y
    rw [e2, e3]; exact h.apB y hy
  · intro x hx x' hx' hne
    rw [List.mem_map] at hx hx'
    obtain ⟨y, hy, rfl⟩ := hx
    obtain ⟨y', hy', rfl⟩ := hx'
    obtain ⟨e1, e2, e3, _⟩ := told_keeps R.name a y
    obtain ⟨f1, f2, f3, _⟩ := told_keeps R.name a y'
    rw [e1, f1] at hne
    rw [e2, e3, f2, f3]; exact h.apS y hy y' hy' hne
  · intro x hx k hk
    rw [List.mem_map] at hx
    obtain ⟨y, hy, rfl⟩ := hx
    obtain ⟨_, _, _, _, e5, e6, _⟩ := told_keeps R.name a y
    rw [e5, e6]; exact h.out y hy k (told_ow.1 hk)
  · rw [List.length_map]; exact h.few
  · intro x hx
    rw [List.mem_map] at hx
    obtain ⟨y, hy, rfl⟩ := hx
    rw [(told_keeps R.name a y).1]; exact h.short y hy

/-- All rules, those of these names built. -/
noncomputable def bump (es : Ents) (S : List Str) (x : RuleP) : RuleP := if S.contains x.name then { x with ans := nowQ es x.qs } else x
theorem bump_keeps (es : Ents) (S : List Str) (x : RuleP) : (bump es S x).name = x.name ∧ (bump es S x).b = x.b ∧ (bump es S x).m = x.m ∧ (bump es S x).qs = x.qs ∧ (bump es S x).lo = x.lo ∧ (bump es S x).hi = x.hi := by
  unfold bump; split <;> simp
theorem bump_nil (es : Ents) (Rs : List RuleP) : Rs.map (bump es []) = Rs := by
  rw [show bump es [] = id from funext fun x => by simp [bump], List.map_id]
theorem bump_told {es : Ents} {S : List Str} {Rs : List RuleP} {R : RuleP} (hnd : (Rs.map (·.name)).Nodup) (hR : R ∈ Rs) : (Rs.map (bump es S)).map (told R.name (nowQ es R.qs)) = Rs.map (bump es (S ++ [R.name])) := by
  rw [List.map_map]
  apply List.map_congr_left
  intro x hx
  simp only [Function.comp]
  by_cases e : x.name = R.name
  · have := name_inj hnd hx hR e
    subst this
    unfold told
    rw [if_pos (by simp [(bump_keeps es S x).1])]
    unfold bump
    simp only [List.contains_append, List.contains_cons, beq_self_eq_true, Bool.true_or, Bool.or_true, if_true]
    split <;> rfl
  · unfold told
    rw [if_neg (by simpa [(bump_keeps es S x).1] using e)]
    unfold bump
    have : (S ++ [R.name]).contains x.name = S.contains x.name := by
      rw [Bool.eq_iff_iff]; simp [e]
    rw [this]
theorem bump_ow {es : Ents} {S : List Str} {rr : Nat} {Rs : List RuleP} {k : Nat} : Ow rr (Rs.map (bump es S)) k ↔ Ow rr Rs k := by
  unfold Ow
  constructor
  · rintro (h | ⟨R, hR, h⟩)
    · exact .inl h
    · rw [List.mem_map] at hR
      obtain ⟨x, hx, rfl⟩ := hR
      obtain ⟨_, h2, h3, _⟩ := bump_keeps es S x
      rw [h2, h3] at h
      exact .inr ⟨x, hx, h⟩
  · rintro (h | ⟨R, hR, h⟩)
    · exact .inl h
    · obtain ⟨_, h2, h3, _⟩ := bump_keeps es S R
      exact .inr ⟨_, List.mem_map.2 ⟨R, hR, rfl⟩, by rw [h2, h3]; exact h⟩
theorem bump_foot {es : Ents} {S : List Str} {rr : Nat} {Rs : List RuleP} {k : Nat} : Foot rr (Rs.map (bump es S)) k → Foot rr Rs k := by
  rintro (h | ⟨R, hR, h⟩)
  · exact .inl (bump_ow.1 h)
  · rw [List.mem_map] at hR
    obtain ⟨x, hx, rfl⟩ := hR
    obtain ⟨_, _, _, _, h5, h6⟩ := bump_keeps es S x
    rw [h5, h6] at h
    exact .inr ⟨x, hx, h⟩

/-- The line of a rule that must be built. -/
noncomputable def lineP (es : Ents) (V : List RView) (n : Str) : Str := if V.any (fun x => x.name == n && decide (nowQ es x.qs ≠ x.ans)) then n ++ [10] else []
theorem lineP_of {es : Ents} {Rs : List RuleP} {R : RuleP} (hnd : (Rs.map (·.name)).Nodup) (hR : R ∈ Rs) : lineP es (Rs.map (·.view)) R.name = if decide (nowQ es R.qs ≠ R.ans) then R.name ++ [10] else [] := by
  unfold lineP
  have : (Rs.map (·.view)).any (fun x => x.name == R.name && decide (nowQ es x.qs ≠ x.ans)) = decide (nowQ es R.qs ≠ R.ans) := by
    rw [Bool.eq_iff_iff, List.any_eq_true]
    constructor
    · rintro ⟨v, hv, h⟩
      rw [List.mem_map] at hv
      obtain ⟨x, hx, rfl⟩ := hv
      simp only [Bool.and_eq_true, beq_iff_eq] at h
      have := name_inj hnd hx hR h.1
      subst this
      exact h.2
    · intro h
      exact ⟨R.view, List.mem_map.2 ⟨R, hR, rfl⟩, by simp only [Bool.and_eq_true]; exact ⟨by simp [RuleP.view], h⟩⟩
  rw [this]

end Go.Proofs.YtdcbgfhkfmohiaaGreatDoor
