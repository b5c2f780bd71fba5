/- What an edit makes of a snapshot's files, path by path. No program. -/
import Derived.Test.YtdcbgfhkfmohiaaGreatDoorKb28
namespace Go.Proofs.YtdcbgfhkfmohiaaGreatDoor
open Go.RowKit

/-- What an edit does to the store: it is refused, or it lays one more list of files. -/
inductive Grew (r : RSt) (P : List Fl → Prop) : RSt × Nat × Nat → Prop
  | no (e : Nat) (he : e ≠ 0) : Grew r P (r, 0, e)
  | yes (l : List Fl) (h : r.all.length < 12) (hc : ¬ r.limit < cellsOf { r with all := r.all ++ [(r.made, l)] }) (hp : P l) : Grew r P ({ r with all := r.all ++ [(r.made, l)], made := r.made + 1 }, r.made, 0)
theorem Grew.mono {r : RSt} {P Q : List Fl → Prop} {o : RSt × Nat × Nat} (h : Grew r P o) (hi : ∀ l, P l → Q l) : Grew r Q o := by
  cases h with
  | no e he => exact .no e he
  | yes l h1 h2 h3 => exact .yes l h1 h2 (hi l h3)
theorem keep_grew {P : List Fl → Prop} (r : RSt) (l : List Fl) (hp : P l) : Grew r P (keepR r l) := by
  unfold keepR
  split
  · exact .no _ (by omega)
  · rename_i h1
    split
    · exact .no _ (by omega)
    · rename_i h2
      exact .yes l (by omega) h2 hp

theorem put_grew (r : RSt) (n : Int) (p d : Str) : Grew r (fun l' => ∃ l, findL r.all n = some l ∧ isPathL p = true ∧ ¬ (isDirL l p = true ∨ crossedL l p = true) ∧ l' = putL l (p, d)) (putR r n p d) := by
  unfold putR
  cases hf : findL r.all n with
  | none => exact .no _ (by omega)
  | some l =>
    simp only
    split
    · exact .no _ (by omega)
    · rename_i h1
      split
      · exact .no _ (by omega)
      · split
        · exact .no _ (by omega)
        · rename_i h3
          split
          · exact .no _ (by omega)
          · exact keep_grew r _ ⟨l, rfl, by simpa using h1, by simpa [Bool.or_eq_true] using h3, rfl⟩
theorem delete_grew (r : RSt) (n : Int) (p : Str) : Grew r (fun l' => ∃ l, findL r.all n = some l ∧ isPathL p = true ∧ l' = withoutL l p) (deleteR r n p) := by
  unfold deleteR
  cases hf : findL r.all n with
  | none => exact .no _ (by omega)
  | some l =>
    simp only
    split
    · exact .no _ (by omega)
    · rename_i h1
      split
      · exact .no _ (by omega)
      · exact keep_grew r _ ⟨l, rfl, by simpa using h1, rfl⟩
theorem move_grew (r : RSt) (n : Int) (s t : Str) : Grew r (fun l' => ∃ l, findL r.all n = some l ∧ isPathL s = true ∧ isPathL t = true ∧ ¬ (0 ≤ getI l t ∨ isDirL l t = true ∨ crossedL l t = true ∨ (s == t) = true ∨ (belowL t s).isEmpty = false) ∧ moveL l s t = some l') (moveR r n s t) := by
  unfold moveR
  cases hf : findL r.all n with
  | none => exact .no _ (by omega)
  | some l =>
    simp only
    split
    · exact .no _ (by omega)
    · rename_i h1
      split
      · exact .no _ (by omega)
      · split
        · exact .no _ (by omega)
        · rename_i h3
          cases hm : moveL l s t with
          | none => exact .no _ (by omega)
          | some m => exact keep_grew r _ ⟨l, rfl, by simpa using fun h => h1 (.inl h), by simpa using fun h => h1 (.inr h), h3, hm⟩
theorem play_grew (r : RSt) (n : Int) (o : KStep) : Grew r (fun _ => ∃ l, findL r.all n = some l) (playR r n o) := by
  unfold playR
  split
  · exact (put_grew r n _ _).mono fun l' ⟨l, h, _⟩ => ⟨l, h⟩
  · split
    · exact (delete_grew r n _).mono fun l' ⟨l, h, _⟩ => ⟨l, h⟩
    · split
      · exact (move_grew r n _ _).mono fun l' ⟨l, h, _⟩ => ⟨l, h⟩
      · exact (move_grew r n _ _).mono fun l' ⟨l, h, _⟩ => ⟨l, h⟩
theorem play_none {r : RSt} {n : Int} (o : KStep) (h : findL r.all n = none) : playR r n o = (r, 0, 2) := by
  unfold playR
  rw [putR_none h, deleteR_none h, moveR_none h, moveR_none h]
  simp

/-- Paths as names. -/
theorem path_names {p : Str} (h : isPathL p = true) : OkN (splitL 47 p) ∧ joinP (splitL 47 p) = p := by
  unfold isPathL at h
  simp only [Bool.and_eq_true, List.all_eq_true] at h
  exact ⟨⟨splitL_ne 47 p, h.1.2⟩, join_split p⟩
theorem value_names {L : List NF} (hv : ValidN L) (_hs : SortedN L) {P : List Str} (hP : OkN P) : (∃ d, (P, d) ∈ L ∧ valueK (toF L) (joinP P) = (d, true)) ∨ ((∀ d, (P, d) ∉ L) ∧ valueK (toF L) (joinP P) = ([], false)) := by
  unfold valueK
  cases hf : (toF L).find? (fun f => f.1 == joinP P) with
  | none =>
    refine .inr ⟨fun d hd => ?_, rfl⟩
    rw [List.find?_eq_none] at hf
    exact hf (joinP P, d) (List.mem_map.2 ⟨(P, d), hd, rfl⟩) (by simp)
  | some f =>
    have h1 := List.find?_some hf
    have h2 := List.mem_of_find?_eq_some hf
    unfold toF at h2
    rw [List.mem_map] at h2
    obtain ⟨g, hg, rfl⟩ := h2
    simp only [beq_iff_eq] at h1
    rw [(hv g hg).inj hP] at h1
    obtain ⟨q, d⟩ := g
    simp only at h1
    subst h1
    exact .inl ⟨d, hg, rfl⟩
theorem sorted_one {L : List NF} (hs : SortedN L) {P : List Str} {d e : Str} (h1 : (P, d) ∈ L) (h2 : (P, e) ∈ L) : d = e := by
  induction L with
  | nil => simp at h1
  | cons a L ih =>
    unfold SortedN at hs
    rw [List.pairwise_cons] at hs
    rw [List.mem_cons] at h1 h2
    rcases h1 with rfl | h1 <;> rcases h2 with h2 | h2
    · simpa using h2.symm
    · have := hs.1 _ h2; rw [ls_irrefl] at this; simp at this
    · subst h2; have := hs.1 _ h1; rw [ls_irrefl] at this; simp at this
    · exact ih hs.2 h1 h2
/-- Two lists of files that have the same at a path. -/
theorem value_eq {L M : List NF} (hv : ValidN L) (hs : SortedN L) (hv' : ValidN M) (hs' : SortedN M) {P Q : List Str} (hP : OkN P) (hQ : OkN Q) (h : ∀ d, (P, d) ∈ L ↔ (Q, d) ∈ M) : valueK (toF L) (joinP P) = valueK (toF M) (joinP Q) := by
  rcases value_names hv hs hP with ⟨d, h1, h2⟩ | ⟨h1, h2⟩ <;> rcases value_names hv' hs' hQ with ⟨e, h3, h4⟩ | ⟨h3, h4⟩
  · rw [h2, h4, sorted_one hs h1 ((h e).2 h3)]
  · exact absurd ((h d).1 h1) (h3 d)
  · exact absurd ((h e).2 h3) (h1 e)
  · rw [h2, h4]

/-- What value must say behind a put, a delete, a move. -/
def wantPut (l : List Fl) (a d p : Str) : Str × Bool := if p == a then (d, true) else valueK l p
def wantDel (l : List Fl) (a p : Str) : Str × Bool := if (p == a) || !(belowL p a).isEmpty then ([], false) else valueK l p
def wantMove (l : List Fl) (a b p : Str) : Str × Bool :=
  if p == b then valueK l a
  else if !(belowL p b).isEmpty && (valueK l (a ++ 47 :: belowL p b)).2 then valueK l (a ++ 47 :: belowL p b)
  else wantDel l a p

theorem put_value {L : List NF} {a d p : Str} (hv : ValidN L) (hs : SortedN L) (ha : isPathL a = true) (hp : isPathL p = true) : valueK (putL (toF L) (a, d)) p = wantPut (toF L) a d p := by
  obtain ⟨h1, h2⟩ := path_names ha
  obtain ⟨h3, h4⟩ := path_names hp
  have e : putL (toF L) (a, d) = toF (insN L (splitL 47 a, d)) := by
    have := put_names (f := (splitL 47 a, d)) hv h1 hs
    rw [h2] at this
    exact this
  rw [e]
  unfold wantPut
  by_cases hpa : p = a
  · subst hpa
    rw [if_pos (by simp)]
    rcases value_names (insN_valid hs hv h1) (insN_sorted hs (splitL 47 p, d)) h3 with ⟨x, hx, h5⟩ | ⟨hx, h5⟩
    · rw [h4] at h5
      rw [h5]
      rcases (insN_mem hs _ _).1 hx with h6 | ⟨_, h6⟩
      · simp only [Prod.mk.injEq, true_and] at h6; rw [h6]
      · exact absurd rfl h6
    · exact absurd ((insN_mem hs _ _).2 (.inl rfl)) (hx d)
  · rw [if_neg (by simpa using hpa)]
    have hne : splitL 47 p ≠ splitL 47 a := fun h => hpa (splitL_inj h)
    have := value_eq (insN_valid hs hv h1 (f := (splitL 47 a, d))) (insN_sorted hs _) hv hs h3 h3 (fun x => by
      rw [insN_mem hs]
      constructor
      · rintro (h | h)
        · exact absurd (congrArg Prod.fst h) hne
        · exact h.1
      · intro h; exact .inr ⟨h, hne⟩)
    rw [h4] at this
    exact this
theorem below_pre {p a : Str} (ha : isPathL a = true) (hp : isPathL p = true) : ((p == a) || !(belowL p a).isEmpty) = decide (splitL 47 a <+: splitL 47 p) := by
  obtain ⟨h1, h2⟩ := path_names ha
  obtain ⟨h3, h4⟩ := path_names hp
  have h5 := below_empty h3 h1
  rw [h2, h4] at h5
  rw [Bool.eq_iff_iff, Bool.or_eq_true, decide_eq_true_iff, prefix_iff, beq_iff_eq]
  constructor
  · rintro (h | h)
    · exact .inl (by rw [h])
    · refine .inr (Classical.byContradiction fun h6 => ?_)
      rw [h5.2 h6] at h
      simp at h
  · rintro (h | h)
    · exact .inl (splitL_inj h)
    · refine .inr ?_
      cases hb : (belowL p a).isEmpty
      · rfl
      · exact absurd h (h5.1 hb)
theorem del_value {L : List NF} {a p : Str} (hv : ValidN L) (hs : SortedN L) (ha : isPathL a = true) (hp : isPathL p = true) : valueK (withoutL (toF L) a) p = wantDel (toF L) a p := by
  obtain ⟨h1, h2⟩ := path_names ha
  obtain ⟨h3, h4⟩ := path_names hp
  have e : withoutL (toF L) a = toF (L.filter fun f => decide (¬ splitL 47 a <+: f.1)) := by
    have := without_names hv h1
    rw [h2] at this
    exact this
  have hv' : ValidN (L.filter fun f => decide (¬ splitL 47 a <+: f.1)) := fun f hf => hv f (List.mem_filter.1 hf).1
  rw [e]
  unfold wantDel
  rw [below_pre ha hp]
  by_cases hpa : splitL 47 a <+: splitL 47 p
  · rw [if_pos (by simpa using hpa)]
    rcases value_names hv' (filter_sorted hs _) h3 with ⟨x, hx, h5⟩ | ⟨hx, h5⟩
    · have := (List.mem_filter.1 hx).2
      simp only [decide_eq_true_iff] at this
      exact absurd hpa this
    · rw [h4] at h5; exact h5
  · rw [if_neg (by simpa using hpa)]
    have := value_eq hv' (filter_sorted hs _) hv hs h3 h3 (fun x => by
      rw [List.mem_filter]
      constructor
      · intro h; exact h.1
      · intro h; exact ⟨h, by simpa using hpa⟩)
    rw [h4] at this
    exact this

theorem below_join {p b : Str} (hb : isPathL b = true) (hp : isPathL p = true) : (belowL p b = [] ∧ ¬ ∃ R, R ≠ [] ∧ splitL 47 p = splitL 47 b ++ R) ∨ ∃ R, R ≠ [] ∧ splitL 47 p = splitL 47 b ++ R ∧ belowL p b = joinP R ∧ belowL p b ≠ [] ∧ OkN R := by
  obtain ⟨h1, h2⟩ := path_names hb
  obtain ⟨h3, h4⟩ := path_names hp
  have := below_names h3 h1
  rw [h2, h4] at this
  rcases this with h | ⟨R, h5, h6, h7⟩
  · exact .inl h
  · have hR : OkN R := OkN.tail (q := splitL 47 b) (by rw [← h6]; exact h3) h5
    exact .inr ⟨R, h5, h6, h7, by rw [h7]; exact joinP_ne hR, hR⟩
/-- What a move makes, in names. -/
theorem moveK_names {L : List NF} {a b : Str} {l' : List Fl} (hv : ValidN L) (hs : SortedN L) (ha : isPathL a = true) (hb : isPathL b = true) (hm : moveL (toF L) a b = some l') :
    ∃ L', l' = toF L' ∧ ValidN L' ∧ SortedN L' ∧ ∀ x, x ∈ L' ↔ ((x ∈ L ∧ ¬ splitL 47 a <+: x.1) ∧ ∀ f ∈ L, splitL 47 a <+: f.1 → x.1 ≠ splitL 47 b ++ f.1.drop (splitL 47 a).length) ∨ ∃ f ∈ L, splitL 47 a <+: f.1 ∧ x = (splitL 47 b ++ f.1.drop (splitL 47 a).length, f.2) := by
  obtain ⟨h1, h2⟩ := path_names ha
  obtain ⟨h3, h4⟩ := path_names hb
  have hv' : ValidN (L.filter fun f => decide (¬ splitL 47 a <+: f.1)) := fun f hf => hv f (List.mem_filter.1 hf).1
  have hs' := filter_sorted hs (fun f => decide (¬ splitL 47 a <+: f.1))
  have e : withoutL (toF L) a = toF (L.filter fun f => decide (¬ splitL 47 a <+: f.1)) := by
    have := without_names hv h1
    rw [h2] at this
    exact this
  have hf := move_fold h1 h3 hv hs' hv'
  rw [h2, h4] at hf
  unfold moveL at hm
  rw [e] at hm
  have hmem := moveN_mem (s := splitL 47 a) (t := splitL 47 b) hs hs'
  refine ⟨L.foldl (moveStepN (splitL 47 a) (splitL 47 b)) (L.filter fun f => decide (¬ splitL 47 a <+: f.1)), ?_, ?_, moveN_sorted hs', ?_⟩
  · by_cases hsh : Shallow (splitL 47 a) (splitL 47 b) L
    · rw [hf.1 hsh] at hm
      simpa using hm.symm
    · rw [hf.2 hsh] at hm
      simp at hm
  · intro x hx
    rcases (hmem x).1 hx with ⟨h5, _⟩ | ⟨f, h5, h6, rfl⟩
    · exact hv' x h5
    · exact h3.app fun y hy => (hv f h5).2 y (List.mem_of_mem_drop hy)
  · intro x
    rw [hmem x, List.mem_filter, decide_eq_true_iff]
theorem free_names {L : List NF} {a b : Str} (hv : ValidN L) (hb : isPathL b = true) (hfree : ¬ (0 ≤ getI (toF L) b ∨ isDirL (toF L) b = true ∨ crossedL (toF L) b = true ∨ (a == b) = true ∨ (belowL b a).isEmpty = false)) : ∀ f ∈ L, ¬ splitL 47 b <+: f.1 := by
  obtain ⟨h3, h4⟩ := path_names hb
  have g1 := get_names hv h3
  have g2 := isDir_names hv h3
  rw [h4] at g1 g2
  intro f hf hpre
  rcases prefix_iff.1 hpre with h | h
  · have : getI (toF L) b < 0 := by
      rcases Int.lt_or_le (getI (toF L) b) 0 with h5 | h5
      · exact h5
      · exact absurd (.inl h5) hfree
    exact g1.1 this f hf h
  · exact hfree (.inr (.inl (g2.2 ⟨f, hf, h⟩)))
theorem move_value {L : List NF} {a b p : Str} {l' : List Fl} (hv : ValidN L) (hs : SortedN L) (ha : isPathL a = true) (hb : isPathL b = true) (hp : isPathL p = true) (hfree : ∀ f ∈ L, ¬ splitL 47 b <+: f.1) (hm : moveL (toF L) a b = some l') : valueK l' p = wantMove (toF L) a b p := by
  obtain ⟨L', rfl, hv', hs', hmem⟩ := moveK_names hv hs ha hb hm
  obtain ⟨h1, h2⟩ := path_names ha
  obtain ⟨h3, h4⟩ := path_names hb
  obtain ⟨h5, h6⟩ := path_names hp
  unfold wantMove
  by_cases hpb : p = b
  · subst hpb
    rw [if_pos (by simp)]
    have := value_eq hv' hs' hv hs h5 h1 (fun d => by
      rw [hmem]
      constructor
      · rintro (⟨⟨h7, _⟩, _⟩ | ⟨f, h7, h8, h9⟩)
        · exact absurd (List.prefix_refl _) (hfree _ h7)
        · simp only [Prod.mk.injEq] at h9
          obtain ⟨e1, rfl⟩ := h9
          have e2 : f.1.drop (splitL 47 a).length = [] := by
            have := congrArg List.length e1
            rw [List.length_append] at this
            exact List.eq_nil_of_length_eq_zero (by omega)
          obtain ⟨R, hR⟩ := h8
          rw [← hR] at e2
          simp at e2
          subst e2
          rw [List.append_nil] at hR
          rw [hR]; exact h7
      · intro h7
        refine .inr ⟨_, h7, List.prefix_refl _, ?_⟩
        simp)
    rw [h6, h2] at this
    exact this
  · rw [if_neg (by simpa using hpb)]
    rcases below_join hb hp with ⟨h7, h8⟩ | ⟨R, h7, h8, h9, h10, h11⟩
    · have hnp : ¬ splitL 47 b <+: splitL 47 p := fun h => by
        rcases prefix_iff.1 h with h' | h'
        · exact hpb (splitL_inj h')
        · exact h8 h'
      rw [h7, if_neg (by simp), ← del_value hv hs ha hp]
      have e : withoutL (toF L) a = toF (L.filter fun f => decide (¬ splitL 47 a <+: f.1)) := by
        have := without_names hv h1
        rw [h2] at this
        exact this
      rw [e]
      have := value_eq hv' hs' (fun f hf => hv f (List.mem_filter.1 hf).1) (filter_sorted hs (fun f => decide (¬ splitL 47 a <+: f.1))) h5 h5 (fun d => by
        rw [hmem, List.mem_filter, decide_eq_true_iff]
        constructor
        · rintro (h9 | ⟨f, h9, h10, h11⟩)
          · exact h9.1
          · simp only [Prod.mk.injEq] at h11
            exact absurd ⟨_, h11.1.symm⟩ hnp
        · intro h9
          exact .inl ⟨h9, fun f _ _ e => hnp ⟨_, e.symm⟩⟩)
      rw [h6] at this
      exact this
    · have hOS : OkN (splitL 47 a ++ R) := h1.app h11.2
      have hj : joinP (splitL 47 a ++ R) = a ++ 47 :: belowL p b := by rw [joinP_app h1.1 h7, h2, h9]
      have key : valueK (toF L') p = valueK (toF L) (a ++ 47 :: belowL p b) := by
        have := value_eq hv' hs' hv hs h5 hOS (fun d => by
          rw [hmem, h8]
          constructor
          · rintro (⟨⟨h12, _⟩, _⟩ | ⟨f, h12, h13, h14⟩)
            · exact absurd ⟨R, rfl⟩ (hfree _ h12)
            · simp only [Prod.mk.injEq] at h14
              obtain ⟨e1, rfl⟩ := h14
              have e2 := List.append_cancel_left e1
              obtain ⟨R', hR'⟩ := h13
              rw [← hR', List.drop_left] at e2
              subst e2
              rw [hR']; exact h12
          · intro h12
            exact .inr ⟨_, h12, ⟨R, rfl⟩, by simp⟩)
        rw [h6, hj] at this
        exact this
      rw [key]
      cases hq : (valueK (toF L) (a ++ 47 :: belowL p b)).2
      · rw [if_neg (by simp)]
        have e1 : valueK (toF L) (a ++ 47 :: belowL p b) = ([], false) := by
          have := value_names hv hs hOS
          rw [hj] at this
          rcases this with ⟨d, _, h12⟩ | ⟨_, h12⟩
          · rw [h12] at hq; simp at hq
          · exact h12
        have e2 : valueK (toF L) p = ([], false) := by
          have := value_names hv hs h5
          rw [h6] at this
          rcases this with ⟨d, h12, _⟩ | ⟨_, h12⟩
          · exact absurd ⟨R, h8.symm⟩ (hfree _ h12)
          · exact h12
        rw [e1]
        unfold wantDel
        rw [e2]
        split <;> rfl
      · rw [if_pos]
        simp only [Bool.and_true, Bool.not_eq_true', List.isEmpty_eq_false_iff]
        exact h10

end Go.Proofs.YtdcbgfhkfmohiaaGreatDoor

/- Kept: what is asked of snapshots behind edits and releases. No program. -/
namespace Go.Proofs.YtdcbgfhkfmohiaaGreatDoor
open Go.RowKit

theorem findL_app {all : List (Nat × List Fl)} {m : Nat} {l : List Fl} (h : ∀ x ∈ all, x.1 ≠ m) : findL (all ++ [(m, l)]) (m : Int) = some l := by
  unfold findL
  rw [List.find?_append, (List.find?_eq_none (l := all) (p := fun x => (x.1 : Int) == (m : Int))).2 (fun x hx => by have := h x hx; simp; omega)]
  simp
theorem findL_old {all : List (Nat × List Fl)} {m n : Nat} {l : List Fl} (h : n ≠ m) : findL (all ++ [(m, l)]) (n : Int) = findL all (n : Int) := by
  unfold findL
  rw [List.find?_append]
  have : ([(m, l)] : List (Nat × List Fl)).find? (fun x => (x.1 : Int) == (n : Int)) = none := by
    rw [List.find?_eq_none]; intro x hx; simp at hx; subst hx; simp; omega
  rw [this, Option.or_none]
theorem findL_gone {all : List (Nat × List Fl)} {m n : Nat} (h : n ≠ m) : findL (all.filter fun x => !((x.1 : Int) == (m : Int))) (n : Int) = findL all (n : Int) := by
  unfold findL
  congr 1
  induction all with
  | nil => rfl
  | cons a t ih =>
    rw [List.filter_cons]
    by_cases e : (a.1 : Int) = (m : Int)
    · rw [if_neg (by simp [e]), ih, List.find?_cons_of_neg (by simp; omega)]
    · rw [if_pos (by simp [e])]
      by_cases e2 : (a.1 : Int) = (n : Int)
      · rw [List.find?_cons_of_pos (by simp [e2]), List.find?_cons_of_pos (by simp [e2])]
      · rw [List.find?_cons_of_neg (by simp [e2]), List.find?_cons_of_neg (by simp [e2]), ih]
theorem findL_this {all : List (Nat × List Fl)} {m : Nat} : findL (all.filter fun x => !((x.1 : Int) == (m : Int))) (m : Int) = none := by
  unfold findL
  rw [Option.map_eq_none_iff, List.find?_eq_none]
  intro x hx
  have := (List.mem_filter.1 hx).2
  simpa using this

structure KeptR (r : RSt) (ns : List Nat) (ts : List Bool) (ws : List (List Fl)) : Prop where
  lt' : ts.length = ns.length
  lw : ws.length = ns.length
  n0 : ns[0]? = some 0
  t0 : ts[0]? = some true
  w0 : ws[0]? = some []
  nd : ns.Nodup
  lt : ∀ n ∈ ns, n < r.made
  made : r.made ≤ ns.length + 1
  find : ∀ (k n : Nat), ns[k]? = some n → findL r.all (n : Int) = if ts[k]? = some true then ws[k]? else none
  cov : ∀ x ∈ r.all, x.1 ∈ ns
  nda : (r.all.map (·.1)).Nodup
theorem keptR_start : KeptR kR0 [0] [true] [[]] := by
  refine ⟨rfl, rfl, rfl, rfl, rfl, by simp, ?_, by decide, ?_, ?_, ?_⟩
  · intro n hn; simp at hn; subst hn; decide
  · intro k n hk
    cases k with
    | zero => simp at hk; subst hk; rfl
    | succ k => simp at hk
  · intro x hx; simp [kR0] at hx; subst hx; simp
  · simp [kR0]
theorem KeptR.ne {r : RSt} {ns : List Nat} {ts : List Bool} {ws : List (List Fl)} (h : KeptR r ns ts ws) : ns ≠ [] := by
  intro e; have := h.n0; rw [e] at this; simp at this
theorem KeptR.more {r : RSt} {ns : List Nat} {ts : List Bool} {ws : List (List Fl)} (h : KeptR r ns ts ws) (l : List Fl) : KeptR { r with all := r.all ++ [(r.made, l)], made := r.made + 1 } (ns ++ [r.made]) (ts ++ [true]) (ws ++ [l]) := by
  have hpos : 0 < ns.length := List.length_pos_iff.2 h.ne
  have hfr : ∀ x ∈ r.all, x.1 ≠ r.made := fun x hx e => by have := h.lt _ (h.cov x hx); omega
  refine ⟨by simp [h.lt'], by simp [h.lw], ?_, ?_, ?_, ?_, ?_, ?_, ?_, ?_, ?_⟩
  · rw [List.getElem?_append_left hpos]; exact h.n0
  · rw [List.getElem?_append_left (by rw [h.lt']; exact hpos)]; exact h.t0
  · rw [List.getElem?_append_left (by rw [h.lw]; exact hpos)]; exact h.w0
  · rw [List.nodup_append]
    exact ⟨h.nd, by simp, fun a ha b hb => by simp at hb; subst hb; have := h.lt a ha; omega⟩
  · intro n hn
    show n < r.made + 1
    rw [List.mem_append, List.mem_singleton] at hn
    rcases hn with hn | rfl
    · have := h.lt n hn; omega
    · omega
  · show r.made + 1 ≤ (ns ++ [r.made]).length + 1
    have := h.made
    simp only [List.length_append, List.length_singleton]; omega
  · intro k n hk
    show findL (r.all ++ [(r.made, l)]) (n : Int) = _
    by_cases hlt : k < ns.length
    · rw [List.getElem?_append_left hlt] at hk
      have hn := h.lt n (List.mem_of_getElem? hk)
      rw [findL_old (by omega), List.getElem?_append_left (by rw [h.lt']; exact hlt), List.getElem?_append_left (by rw [h.lw]; exact hlt)]
      exact h.find k n hk
    · have hk2 : k = ns.length := by
        have := (List.getElem?_eq_some_iff.1 hk).1
        simp at this; omega
      subst hk2
      rw [List.getElem?_append_right (Nat.le_refl _)] at hk
      simp at hk
      subst hk
      rw [findL_app hfr, List.getElem?_append_right (by rw [h.lt']; exact Nat.le_refl _), List.getElem?_append_right (by rw [h.lw]; exact Nat.le_refl _), h.lt', h.lw]
      simp
  · intro x hx
    show x.1 ∈ ns ++ [r.made]
    rw [List.mem_append] at hx ⊢
    rcases hx with hx | hx
    · exact .inl (h.cov x hx)
    · simp at hx; subst hx; simp
  · show ((r.all ++ [(r.made, l)]).map (·.1)).Nodup
    rw [List.map_append, List.nodup_append]
    exact ⟨h.nda, by simp, fun a ha b hb => by
      simp at hb; subst hb
      rw [List.mem_map] at ha
      obtain ⟨x, hx, rfl⟩ := ha
      exact hfr x hx⟩
theorem nodup_get {ns : List Nat} (h : ns.Nodup) {j k n : Nat} (hj : ns[j]? = some n) (hk : ns[k]? = some n) : j = k := by
  have h1 := (List.getElem?_eq_some_iff.1 hj)
  have h2 := (List.getElem?_eq_some_iff.1 hk)
  obtain ⟨h1, e1⟩ := h1
  obtain ⟨h2, e2⟩ := h2
  rcases Nat.lt_trichotomy j k with h3 | h3 | h3
  · exact absurd (e1.trans e2.symm) (List.pairwise_iff_getElem.1 h j k h1 h2 h3)
  · exact h3
  · exact absurd (e2.trans e1.symm) (List.pairwise_iff_getElem.1 h k j h2 h1 h3)
/-- A release of one that is not the first. -/
theorem KeptR.gone {r : RSt} {ns : List Nat} {ts : List Bool} {ws : List (List Fl)} (h : KeptR r ns ts ws) {k n : Nat} (hk : ns[k]? = some n) (h1 : 0 < k) :
    KeptR (releaseR r (n : Int)).1 ns (ts.set k false) ws ∧ (releaseR r (n : Int)).2 = if ts[k]? = some true then 0 else 2 := by
  have hkl : k < ns.length := (List.getElem?_eq_some_iff.1 hk).1
  have hkt : k < ts.length := by rw [h.lt']; exact hkl
  have hkw : k < ws.length := by rw [h.lw]; exact hkl
  have hf := h.find k n hk
  have base : ∀ r' : RSt, r'.made = r.made → (∀ x ∈ r'.all, x ∈ r.all) → (r'.all.map (·.1)).Nodup → (∀ m : Nat, findL r'.all (m : Int) = if m = n then none else findL r.all (m : Int)) → KeptR r' ns (ts.set k false) ws := by
    intro r' e1 e2 e3 e4
    refine ⟨by simp [h.lt'], h.lw, h.n0, ?_, h.w0, h.nd, ?_, ?_, ?_, fun x hx => h.cov x (e2 x hx), e3⟩
    · rw [List.getElem?_set_ne (by omega)]; exact h.t0
    · rw [e1]; exact h.lt
    · rw [e1]; exact h.made
    · intro j m hj
      rw [e4]
      by_cases hm : m = n
      · subst hm
        rw [if_pos rfl]
        obtain rfl : k = j := nodup_get h.nd hk hj
        rw [List.getElem?_set_self hkt]
        simp
      · rw [if_neg hm]
        have hne : k ≠ j := by intro e; subst e; rw [hk] at hj; simp at hj; exact hm hj.symm
        rw [List.getElem?_set_ne hne]
        exact h.find j m hj
  cases hfd : findL r.all (n : Int) with
  | none =>
    have e : releaseR r (n : Int) = (r, 2) := by unfold releaseR; rw [hfd]
    rw [e]
    refine ⟨base r rfl (fun x hx => hx) h.nda (fun m => ?_), ?_⟩
    · by_cases e : m = n
      · subst e; rw [if_pos rfl]; exact hfd
      · rw [if_neg e]
    · rw [hfd] at hf
      by_cases e : ts[k]? = some true
      · rw [if_pos e, List.getElem?_eq_getElem hkw] at hf
        simp at hf
      · rw [if_neg e]
  | some l =>
    have e : releaseR r (n : Int) = ({ r with all := r.all.filter fun x => !((x.1 : Int) == (n : Int)) }, 0) := by unfold releaseR; rw [hfd]
    rw [e]
    refine ⟨base _ rfl (fun x hx => (List.mem_filter.1 hx).1) ?_ (fun m => ?_), ?_⟩
    · exact h.nda.sublist (List.Sublist.map _ List.filter_sublist)
    · by_cases e : m = n
      · subst e; rw [if_pos rfl]; exact findL_this
      · rw [if_neg e]; exact findL_gone e
    · rw [hfd] at hf
      by_cases e : ts[k]? = some true
      · rw [if_pos e]
      · rw [if_neg e] at hf
        simp at hf
/-- When all but the first are gone. -/
theorem KeptR.last {r : RSt} {ns : List Nat} {ts : List Bool} {ws : List (List Fl)} (h : KeptR r ns ts ws) (hall : ∀ j, 0 < j → j < ns.length → ts[j]? = some false) : cellsOf r = cellsOf kR0 := by
  have hx0 : ∀ x ∈ r.all, x.1 = 0 := by
    intro x hx
    obtain ⟨k, hk⟩ := List.getElem?_of_mem (h.cov x hx)
    have hf := h.find k x.1 hk
    have hkl : k < ns.length := (List.getElem?_eq_some_iff.1 hk).1
    rcases Nat.eq_zero_or_pos k with rfl | hp
    · have := h.n0; rw [hk] at this; simpa using this
    · rw [hall k hp hkl, if_neg (by simp)] at hf
      unfold findL at hf
      rw [Option.map_eq_none_iff, List.find?_eq_none] at hf
      exact absurd (hf x hx) (by simp)
  have hf0 := h.find 0 0 h.n0
  rw [h.t0, if_pos rfl, h.w0] at hf0
  have : r.all = [(0, [])] := by
    revert hx0 hf0
    have hnd := h.nda
    revert hnd
    generalize r.all = al
    intro hnd hx0 hf0
    cases al with
    | nil => simp [findL] at hf0
    | cons a t =>
      have ha := hx0 a (by simp)
      obtain ⟨a1, a2⟩ := a
      simp only at ha
      subst ha
      have ht : t = [] := by
        cases t with
        | nil => rfl
        | cons b u =>
          have hb := hx0 b (by simp)
          simp [hb] at hnd
      subst ht
      simp [findL] at hf0
      rw [hf0]
  unfold cellsOf
  rw [this]
  rfl

end Go.Proofs.YtdcbgfhkfmohiaaGreatDoor

/- Shared: what is put twice, what is moved and moved back. No program. -/
namespace Go.Proofs.YtdcbgfhkfmohiaaGreatDoor
open Go.RowKit

/-- A snapshot's files, as lists of names, all of them short. -/
structure GoodN (L : List NF) : Prop where
  v : ValidN L
  s : SortedN L
  short : ∀ f ∈ L, ∀ x ∈ f.1, x.length ≤ 3
def GoodL (l : List Fl) : Prop := ∃ L, l = toF L ∧ GoodN L
theorem pathK_short3 : ∀ k : Fin 84, isPathL (pathK k.1) = true ∧ (splitL 47 (pathK k.1)).all (fun x => decide (x.length ≤ 3)) = true := by decide +kernel
theorem pathK_ok {k : Nat} (hk : k < 84) : isPathL (pathK k) = true ∧ ∀ x ∈ splitL 47 (pathK k), x.length ≤ 3 := by
  have := pathK_short3 ⟨k, hk⟩
  refine ⟨this.1, fun x hx => ?_⟩
  have h2 := List.all_eq_true.1 this.2 x hx
  simpa using h2
theorem GoodL.put {l : List Fl} {k : Nat} {d : Str} (h : GoodL l) (hk : k < 84) : GoodL (putL l (pathK k, d)) := by
  obtain ⟨L, rfl, hg⟩ := h
  obtain ⟨h1, h2⟩ := pathK_ok hk
  obtain ⟨h3, h4⟩ := path_names h1
  have e : putL (toF L) (pathK k, d) = toF (insN L (splitL 47 (pathK k), d)) := by
    have := put_names (f := (splitL 47 (pathK k), d)) hg.v h3 hg.s
    rw [h4] at this
    exact this
  refine ⟨_, e, insN_valid hg.s hg.v h3, insN_sorted hg.s _, fun f hf => ?_⟩
  rcases (insN_mem hg.s _ _).1 hf with rfl | ⟨h5, _⟩
  · exact h2
  · exact hg.short f h5
theorem GoodL.del {l : List Fl} {p : Str} (h : GoodL l) (hp : isPathL p = true) : GoodL (withoutL l p) := by
  obtain ⟨L, rfl, hg⟩ := h
  obtain ⟨h3, h4⟩ := path_names hp
  have e : withoutL (toF L) p = toF (L.filter fun f => decide (¬ splitL 47 p <+: f.1)) := by
    have := without_names hg.v h3
    rw [h4] at this
    exact this
  exact ⟨_, e, fun f hf => hg.v f (List.mem_filter.1 hf).1, filter_sorted hg.s _, fun f hf => hg.short f (List.mem_filter.1 hf).1⟩
theorem GoodL.move {l l' : List Fl} {p : Str} {k : Nat} (h : GoodL l) (hp : isPathL p = true) (hk : k < 84) (hm : moveL l p (pathK k) = some l') : GoodL l' := by
  obtain ⟨L, rfl, hg⟩ := h
  obtain ⟨h1, h2⟩ := pathK_ok hk
  obtain ⟨L', rfl, hv, hs, hmem⟩ := moveK_names hg.v hg.s hp h1 hm
  refine ⟨L', rfl, hv, hs, fun f hf => ?_⟩
  rcases (hmem f).1 hf with ⟨⟨h5, _⟩, _⟩ | ⟨g, h5, _, rfl⟩
  · exact hg.short f h5
  · intro x hx
    rw [List.mem_append] at hx
    rcases hx with hx | hx
    · exact h2 x hx
    · exact hg.short g h5 x (List.mem_of_mem_drop hx)
theorem findL_mem {all : List (Nat × List Fl)} {n : Int} {l : List Fl} (h : findL all n = some l) : ∃ k, (k, l) ∈ all ∧ (k : Int) = n := by
  unfold findL at h
  rw [Option.map_eq_some_iff] at h
  obtain ⟨x, h1, rfl⟩ := h
  have := List.find?_some h1
  exact ⟨x.1, List.mem_of_find?_eq_some h1, by simpa using this⟩
theorem play_good (r : RSt) (n : Int) (o : KStep) (h : ∀ x ∈ r.all, GoodL x.2) : Grew r GoodL (playR r n o) := by
  have hf : ∀ l, findL r.all n = some l → GoodL l := fun l hl => by
    obtain ⟨k, h1, _⟩ := findL_mem hl
    exact h _ h1
  have k1 : ∀ c : Int, kN c 84 < 84 := fun c => kN_lt c (by omega)
  unfold playR
  split
  · refine (put_grew r n _ _).mono ?_
    rintro l' ⟨l, h1, _, _, rfl⟩
    exact (hf l h1).put (k1 _)
  · split
    · refine (delete_grew r n _).mono ?_
      rintro l' ⟨l, h1, h2, rfl⟩
      exact (hf l h1).del h2
    · split
      · refine (move_grew r n _ _).mono ?_
        rintro l' ⟨l, h1, h2, _, _, h3⟩
        exact (hf l h1).move h2 (k1 _) h3
      · refine (move_grew r n _ _).mono ?_
        rintro l' ⟨l, h1, h2, _, _, h3⟩
        exact (hf l h1).move h2 (k1 _) h3
theorem grew_good {r : RSt} {o : RSt × Nat × Nat} (h : ∀ x ∈ r.all, GoodL x.2) (hg : Grew r GoodL o) : ∀ x ∈ o.1.all, GoodL x.2 := by
  cases hg with
  | no e _ => exact h
  | yes l _ _ hl =>
    intro x hx
    simp only [List.mem_append, List.mem_singleton] at hx
    rcases hx with hx | rfl
    · exact h x hx
    · exact hl
theorem good_start : ∀ x ∈ kR0.all, GoodL x.2 := by
  intro x hx
  simp [kR0] at hx
  subst hx
  exact ⟨[], rfl, by intro f hf; simp at hf, by unfold SortedN; simp, by simp⟩

/-- Cells are what is there: a snapshot of what is there already makes none. -/
theorem cells_same {a b : List (List Fl)} (h : ∀ l, l ∈ a ↔ l ∈ b) : cellsL a = cellsL b := by
  unfold cellsL
  rw [cells_texts, cells_texts]
  have h1 : ∀ {f : List Fl → List Str} (x : Str), x ∈ addAll [] (a.flatMap f) ↔ x ∈ addAll [] (b.flatMap f) := by
    intro f x
    rw [addAll_mem, addAll_mem]
    simp only [List.mem_flatMap, h]
  simp only
  rw [nodup_same (addAll_nodup (by simp)) (addAll_nodup (by simp)) (h1 (f := treeTexts)), nodup_same (addAll_nodup (by simp)) (addAll_nodup (by simp)) (h1 (f := fun l => l.map (·.2)))]
theorem cells_more {r : RSt} {n : Int} {l : List Fl} (h : findL r.all n = some l) (m : Nat) : cellsOf { r with all := r.all ++ [(m, l)] } = cellsOf r := by
  obtain ⟨k, h1, _⟩ := findL_mem h
  unfold cellsOf
  refine cells_same fun x => ?_
  simp only [List.map_append, List.mem_append, List.map_cons, List.map_nil, List.mem_singleton]
  constructor
  · rintro (h2 | rfl)
    · exact h2
    · exact List.mem_map.2 ⟨_, h1, rfl⟩
  · exact .inl

/-- What the files of a snapshot have to do with one another. -/
structure Apart (L : List NF) : Prop where
  no : ∀ f ∈ L, ∀ g ∈ L, ∀ R, R ≠ [] → g.1 ≠ f.1 ++ R
theorem apart_files {es : Ents} (h : WFE es) : Apart (filesE es) := by
  refine ⟨fun f hf g hg R hR e => ?_⟩
  obtain ⟨p, d⟩ := f
  obtain ⟨q, d'⟩ := g
  simp only at e
  subst e
  have h1 := (mem_root h p d).1 hf
  have h2 := (mem_root h _ d').1 hg
  unfold fileAt at h1 h2
  rw [sub_app] at h2
  revert h1
  cases hs : sub (.dir es) p with
  | none => intro h1; simp at h1
  | some t =>
    cases t with
    | dir _ => intro h1; simp at h1
    | file c =>
      intro _
      rw [hs] at h2
      cases R with
      | nil => exact hR rfl
      | cons x R => simp [sub] at h2

theorem put_again {L : List NF} (hg : GoodN L) {f : NF} (hf : f ∈ L) : putL (toF L) (joinP f.1, f.2) = toF L := by
  rw [put_names hg.v (hg.v f hf) hg.s]
  congr 1
  refine sorted_unique (insN_sorted hg.s _) hg.s fun x => ?_
  rw [insN_mem hg.s]
  constructor
  · rintro (rfl | h)
    · exact hf
    · exact h.1
  · intro hx
    by_cases e : x.1 = f.1
    · left
      obtain ⟨p, d⟩ := x
      obtain ⟨q, c⟩ := f
      simp only at e
      subst e
      rw [sorted_one hg.s hx hf]
    · exact .inr ⟨hx, e⟩

theorem without_less {L : List NF} (hv : ValidN L) {f : NF} (hf : f ∈ L) : ¬ (withoutL (toF L) (joinP f.1)).length = (toF L).length := by
  rw [without_names hv (hv f hf)]
  unfold toF
  rw [List.length_map, List.length_map]
  intro e
  have := List.length_filter_eq_length_iff.1 e f hf
  simp at this
/-- One file moved to where nothing is. -/
theorem move_one {r : RSt} {n : Int} {L : List NF} {f : NF} {b : Str} (hf : findL r.all n = some (toF L)) (hv : ValidN L) (hs : SortedN L) (hap : Apart L) (hm : f ∈ L) (hp : isPathL (joinP f.1) = true) (hb : isPathL b = true) (h1 : ∀ g ∈ L, ¬ splitL 47 b <+: g.1) (h2 : ∀ g ∈ L, ∀ R, R ≠ [] → splitL 47 b ≠ g.1 ++ R) :
    ∃ L', moveR r n (joinP f.1) b = keepR r (toF L') ∧ ValidN L' ∧ SortedN L' ∧ ∀ x, x ∈ L' ↔ (x ∈ L ∧ x.1 ≠ f.1) ∨ x = (splitL 47 b, f.2) := by
  obtain ⟨h3, h4⟩ := path_names hb
  have hS := hv f hm
  have hsp : splitL 47 (joinP f.1) = f.1 := hS.split
  have hsh : Shallow f.1 (splitL 47 b) L := fun g hg R hR e => absurd e (hap.no f hm g hg R hR)
  have hv' : ValidN (L.filter fun g => decide (¬ f.1 <+: g.1)) := fun g hg => hv g (List.mem_filter.1 hg).1
  have hs' := filter_sorted hs (fun g => decide (¬ f.1 <+: g.1))
  have hmv : ∃ l', moveL (toF L) (joinP f.1) b = some l' := by
    have := (move_fold hS h3 hv hs' hv').1 hsh
    rw [h4] at this
    unfold moveL
    rw [without_names hv hS]
    exact ⟨_, this⟩
  obtain ⟨l', hmv⟩ := hmv
  obtain ⟨L', rfl, k1, k2, k3⟩ := moveK_names hv hs hp hb hmv
  rw [hsp] at k3
  have hpre : ∀ g ∈ L, f.1 <+: g.1 → g = f := by
    intro g hg hpr
    rcases prefix_iff.1 hpr with e | ⟨R, hR, e⟩
    · obtain ⟨p, d⟩ := g
      obtain ⟨q, c⟩ := f
      simp only at e
      subst e
      rw [sorted_one hs hg hm]
    · exact absurd e (hap.no f hm g hg R hR)
  refine ⟨L', ?_, k1, k2, fun x => ?_⟩
  · rw [moveR_go hf hp hb (without_less hv hm), hmv]
    rintro (h | h | h | h | h)
    · have g1 := get_names hv h3
      rw [h4] at g1
      have : getI (toF L) b < 0 := g1.2 fun g hg e => h1 g hg (by rw [e]; exact List.prefix_refl _)
      omega
    · have g2 := isDir_names hv h3
      rw [h4] at g2
      obtain ⟨g, hg, R, _, e⟩ := g2.1 h
      exact h1 g hg ⟨R, e.symm⟩
    · have g2 := crossed_names hv h3
      rw [h4] at g2
      obtain ⟨g, hg, R, hR, e⟩ := g2.1 h
      exact h2 g hg R hR e
    · have e : joinP f.1 = b := by simpa using h
      exact h1 f hm (by rw [← e, hsp]; exact List.prefix_refl _)
    · have g2 := below_empty h3 hS
      rw [h4] at g2
      have : ¬ ∃ R, R ≠ [] ∧ splitL 47 b = f.1 ++ R := fun ⟨R, hR, e⟩ => h2 f hm R hR e
      rw [g2.2 this] at h
      simp at h
  · rw [k3]
    constructor
    · rintro (⟨⟨g1, g2⟩, _⟩ | ⟨g, g1, g2, rfl⟩)
      · exact .inl ⟨g1, fun e => g2 (by rw [e]; exact List.prefix_refl _)⟩
      · rw [hpre g g1 g2]
        simp
    · rintro (⟨g1, g2⟩ | rfl)
      · refine .inl ⟨⟨g1, fun hpr => g2 (by rw [hpre x g1 hpr])⟩, fun g _ _ e => h1 x g1 ⟨_, e.symm⟩⟩
      · exact .inr ⟨f, hm, List.prefix_refl _, by simp⟩

def tMoved : Str := [109, 111, 118, 101, 100]
theorem moved_path : isPathL tMoved = true ∧ splitL 47 tMoved = [tMoved] := by decide
theorem moved_fresh {L : List NF} (hg : GoodN L) : (∀ g ∈ L, ¬ splitL 47 tMoved <+: g.1) ∧ ∀ g ∈ L, ∀ R, R ≠ [] → splitL 47 tMoved ≠ g.1 ++ R := by
  rw [moved_path.2]
  refine ⟨fun g hg' ⟨R, e⟩ => ?_, fun g hg' R hR e => ?_⟩
  · have := hg.short g hg' tMoved (by rw [← e]; simp)
    simp [tMoved] at this
  · have h1 := (hg.v g hg').1
    have := congrArg List.length e
    rw [List.length_append, List.length_singleton] at this
    have h2 := List.length_pos_iff.2 h1
    have h3 := List.length_pos_iff.2 hR
    omega
theorem same_root {r : RSt} {a b : Int} {l : List Fl} (ha : findL r.all a = some l) (hb : findL r.all b = some l) : sameR r a b [47] = (true, 0) := by
  unfold sameR
  rw [ha, hb]
  simp only
  have e1 : isPlaceL [47] = true := by decide
  have e2 : isDirL l [47] = true := by unfold isDirL; simp
  rw [e1, if_neg (by simp)]
  unfold sameF
  rw [if_neg (by rw [e2]; simp)]
  by_cases h : 0 ≤ getI l [47] ∧ 0 ≤ getI l [47]
  · rw [if_pos h]; simp
  · rw [if_neg h, if_pos ⟨e2, e2⟩]; simp
theorem put_twice {r : RSt} {n : Int} {L : List NF} {f : NF} (hf : findL r.all n = some (toF L)) (hg : GoodN L) (hap : Apart L) (hm : f ∈ L) (hp : isPathL (joinP f.1) = true) (hd : f.2.length ≤ 30) : putR r n (joinP f.1) f.2 = keepR r (toF L) := by
  have hS := hg.v f hm
  rw [putR_go hf hp (by omega), put_again hg hm]
  · rintro (h | h)
    · obtain ⟨g, h1, R, hR, e⟩ := (isDir_names hg.v hS).1 h
      exact hap.no f hm g h1 R hR e
    · obtain ⟨g, h1, R, hR, e⟩ := (crossed_names hg.v hS).1 h
      exact hap.no g h1 f hm R hR e
  · rintro ⟨h, _⟩
    exact (get_names hg.v hS).1 h f hm rfl
/-- What is moved away and back again is what it was. -/
theorem move_back {r : RSt} {n : Int} {L L' : List NF} {f : NF} (hg : GoodN L) (hap : Apart L) (hm : f ∈ L) (hp : isPathL (joinP f.1) = true) (hv' : ValidN L') (hs' : SortedN L') (hmem : ∀ x, x ∈ L' ↔ (x ∈ L ∧ x.1 ≠ f.1) ∨ x = ([tMoved], f.2)) (hf : findL r.all n = some (toF L')) : moveR r n tMoved (joinP f.1) = keepR r (toF L) := by
  have hS := hg.v f hm
  have hfr := moved_fresh hg
  rw [moved_path.2] at hfr
  have hne : f.1 ≠ [tMoved] := fun e => hfr.1 f hm (by rw [e]; exact List.prefix_refl _)
  have hap' : Apart L' := by
    refine ⟨fun g h1 h h2 R hR e => ?_⟩
    rcases (hmem g).1 h1 with ⟨h3, _⟩ | rfl <;> rcases (hmem h).1 h2 with ⟨h4, _⟩ | rfl
    · exact hap.no g h3 h h4 R hR e
    · exact hfr.2 g h3 R hR e
    · exact hfr.1 h h4 ⟨R, e.symm⟩
    · simp only at e
      have := congrArg List.length e
      rw [List.length_append] at this
      have h5 := List.length_pos_iff.2 hR
      omega
  have hmv : ([tMoved], f.2) ∈ L' := (hmem _).2 (.inr rfl)
  have hjm : joinP [tMoved] = tMoved := rfl
  have q1 : ∀ g ∈ L', ¬ splitL 47 (joinP f.1) <+: g.1 := by
    intro g h5 hpr
    rw [hS.split] at hpr
    rcases (hmem g).1 h5 with ⟨h6, h7⟩ | rfl
    · rcases prefix_iff.1 hpr with e | ⟨R, hR, e⟩
      · exact h7 e
      · exact hap.no f hm g h6 R hR e
    · rcases prefix_iff.1 hpr with e | ⟨R, hR, e⟩
      · exact hne e.symm
      · exact hfr.2 f hm R hR e
  have q2 : ∀ g ∈ L', ∀ R, R ≠ [] → splitL 47 (joinP f.1) ≠ g.1 ++ R := by
    intro g h5 R hR e
    rw [hS.split] at e
    rcases (hmem g).1 h5 with ⟨h6, h7⟩ | rfl
    · exact hap.no g h6 f hm R hR e
    · exact hfr.1 f hm ⟨R, e.symm⟩
  obtain ⟨L2, h1, h2, h3, h4⟩ := move_one (f := ([tMoved], f.2)) (b := joinP f.1) hf hv' hs' hap' hmv (by rw [hjm]; exact moved_path.1) hp q1 q2
  · rw [hS.split] at h4
    simp only [hjm] at h1
    rw [h1]
    congr 2
    refine sorted_unique h3 hg.s fun x => ?_
    rw [h4]
    constructor
    · rintro (⟨h5, h6⟩ | rfl)
      · rcases (hmem x).1 h5 with h7 | rfl
        · exact h7.1
        · exact absurd rfl h6
      · exact hm
    · intro hx
      by_cases e : x.1 = f.1
      · right
        obtain ⟨p, d⟩ := x
        obtain ⟨q, c⟩ := f
        simp only at e
        subst e
        rw [sorted_one hg.s hx hm]
      · exact .inl ⟨(hmem x).2 (.inl ⟨hx, e⟩), fun e2 => hfr.1 x hx (by rw [e2]; exact List.prefix_refl _)⟩

end Go.Proofs.YtdcbgfhkfmohiaaGreatDoor

/- The statements about what a store tells of itself: an edit. -/
namespace Go.Proofs.YtdcbgfhkfmohiaaGreatDoor
open Go.RowKit
attribute [local go_sem] Oper.semAt_some

theorem pathK_short (n : Nat) : (pathK n).length ≤ 11 := by
  have h : ∀ k, (nmK k).length ≤ 3 := nm_len
  unfold pathK
  split
  · have := h n; omega
  · split
    · have := h ((n - 4) / 4); have := h ((n - 4) % 4); simp only [List.length_append, List.length_cons, List.length_nil]; omega
    · have := h ((n - 20) / 16); have := h ((n - 20) / 4 % 4); have := h ((n - 20) % 4); simp only [List.length_append, List.length_cons, List.length_nil]; omega
theorem datK_short (n : Nat) : (datK n).length ≤ 2 := by unfold datK; split <;> simp
theorem kIn_rem {c : Int} (_h : kIn c) : kIn (c.tmod 20) := by
  unfold kIn at *
  have h1 := Int.tmod_lt_of_pos c (show (0 : Int) < 20 by omega)
  constructor
  · have : -20 < c.tmod 20 := by
      rcases Int.lt_or_le c 0 with h | h
      · have h3 := Int.tmod_lt_of_pos (-c) (show (0 : Int) < 20 by omega)
        rw [Int.neg_tmod] at h3; omega
      · have := Int.tmod_nonneg 20 h; omega
    omega
  · omega

/-- What an edit within play does, seen from the step's box on. -/
def PlayMid (w w1 : World) (B : Bank) (o : RSt × Nat × Nat) (e : Ending) (w' : World) : Prop := StepOut w.heap.size w B o e w' ∧ w'.heap[w.heap.size]? = w1.heap[w.heap.size]?
theorem play_mid {w w1 W w' : World} {B : Bank} {o : RSt × Nat × Nat} {e : Ending} (hO : Okay w B) (hb1 : Below w.heap.size w w1) (hs : w.heap.size < w1.heap.size) (hW : Below w1.heap.size w1 W) (h : StepOut W.heap.size W B o e w') : PlayMid w w1 B o e w' := by
  obtain ⟨B', h1, h2, h3, h4⟩ := h
  have hbW : Below w.heap.size w W := hb1.trans (hW.mono hb1.size)
  have x1 : Ext w.heap.size w B W B := Ext.of_below (Nat.le_refl _) hbW
  have x2 : Ext w.heap.size W B w' B' := ⟨h4.os, h4.tape, h4.output, h4.size, h4.four, fun k hk hn => h4.blk k (Nat.lt_of_lt_of_le hk hbW.size) hn, fun k hk => (h4.own k hk).imp id fun h5 => Nat.le_trans hbW.size h5⟩
  refine ⟨⟨B', h1, h2, h3, x1.trans x2⟩, (h4.blk _ (Nat.lt_of_lt_of_le hs hW.size) fun ho => ?_).trans (hW.block _ hs)⟩
  have := hO.at'.own_lt ho
  omega

set_option maxHeartbeats 8000000 in
set_option maxRecDepth 50000 in
theorem kPlay_put (B : Bank) (r : RSt) (n : Int) (o : KStep) (w : World) (hO : Okay w B) (ha : Agree B r) (hm : B.made < 4611686018427387904) (ho : o.ok) (hk : kN o.K 6 < 3) :
    Calls Tryz.prog 18 #[ptrV B.sb, .int .i64 n, o.val] w fun e w' => StepOut w.heap.size w B (playR r n o) e w' := by
  obtain ⟨o0, oF, oA, oB⟩ := o
  obtain ⟨i0, iF, iA, iB⟩ := ho
  simp only at i0 iF iA iB hk
  have HE : Hid (playR r n ⟨o0, oF, oA, oB⟩ = putR r n (pathK (kN oA 84)) (datK (kN oB 5))) := by rw [Hid, playR, if_pos hk]
  rw [HE.out]
  clear HE
  unfold KStep.val
  obtain ⟨w1, hw1⟩ : ∃ w1, w1 = w.alloc (.cells #[.int .i64 o0, .int .i64 oF, .int .i64 oA, .int .i64 oB] 35) := ⟨_, rfl⟩
  have hb1 : Below w.heap.size w w1 := by rw [hw1]; exact (Below.refl _ _).alloc (Nat.le_refl _) _
  have hn1 : w1.heap[w.heap.size]? = some (.cells #[.int .i64 o0, .int .i64 oF, .int .i64 oA, .int .i64 oB] 35 (0, 0)) := by rw [hw1]; exact heap_alloc_new _ _
  have hs1 : w.heap.size < w1.heap.size := (Array.getElem?_eq_some_iff.1 hn1).1
  have c0 : w1.cell? ⟨w.heap.size, 0, none⟩ = some (.int .i64 o0) := (blk_cell hn1 0).trans rfl
  have c2 : w1.cell? ⟨w.heap.size, 2, none⟩ = some (.int .i64 oA) := (blk_cell hn1 2).trans rfl
  have c3 : w1.cell? ⟨w.heap.size, 3, none⟩ = some (.int .i64 oB) := (blk_cell hn1 3).trans rfl
  have CK := kPick_any o0 6 w1 i0 (by omega) (by omega)
  have CP : Hid (∀ W, Calls Tryz.prog 23 #[.int .i64 oA] W fun e w' => KText W (pathK (kN oA 84)) e w') := fun W => kPath_any oA W iA
  have CD : Hid (∀ W, Calls Tryz.prog 25 #[.int .i64 oB] W fun e w' => KText W (datK (kN oB 5)) e w') := fun W => kData_any oB W iB
  have hlp := pathK_short (kN oA 84)
  have hld := datK_short (kN oB 5)
  generalize pathK (kN oA 84) = pp at *
  generalize datK (kN oB 5) = dd at *
  have CE : Hid (∀ W, Below w1.heap.size w1 W → Calls Tryz.prog 38 #[ptrV B.sb, .int .i64 n, SV pp, SV dd] W fun e w' => PlayMid w w1 B (putR r n pp dd) e w') := fun W hW =>
    (storePut_any B r n pp dd W ((hO.below hb1).below hW) ha hm (by unfold maxLen; omega) (by unfold maxLen; omega)).mono fun e w' h => play_mid hO hb1 hs1 hW h
  have K1 : Hid (∀ W : World, W.heap[w.heap.size]? = w1.heap[w.heap.size]? → W.cell? ⟨w.heap.size, 2, none⟩ = some (.int .i64 oA) ∧ W.cell? ⟨w.heap.size, 3, none⟩ = some (.int .i64 oB)) := fun W hW => ⟨(blk_cell (hW.trans hn1) 2).trans rfl, (blk_cell (hW.trans hn1) 3).trans rfl⟩
  have HW1 : Hid _ := hw1
  have KB : Hid (∀ W, Below w1.heap.size w1 W → W.heap[w.heap.size]? = w1.heap[w.heap.size]?) := fun W hW => hW.block _ hs1
  clear hw1 hb1 hn1 hO ha hm
  generalize kN o0 6 = kk at *
  generalize putR r n pp dd = oo at *
  rcases (show kk = 0 ∨ kk = 1 ∨ kk = 2 by omega) with rfl | rfl | rfl
  all_goals
    go_enter Tryz.func18, Tryz.ntmps18
    go_wp2_with fail
    rw [← HW1.out]
    refine CK.mono ?_
    rintro e w1 ⟨rfl, rfl⟩
    clear HW1
    go_upto_region 5 with fail
    go_region_held3 (fun W : World => W.cell? ⟨w.heap.size, 2, none⟩ = some (.int .i64 oA) ∧ W.cell? ⟨w.heap.size, 3, none⟩ = some (.int .i64 oB))
      (first | exact K1.out _ hm4 | exact K1.out _ (KB.out _ hb3) | exact K1.out _ (KB.out _ hb2) | exact K1.out _ (KB.out _ (Below.refl _ _).drew))
      (first
        | ((go_at_call 23; refine (CP.out _).mono ?_; rintro e w2 ⟨rfl, hb2'⟩; have hb2 : Below w1.heap.size w1 w2 := ((Below.refl _ _).drew).trans hb2'))
        | ((go_at_call 25; refine (CD.out _).mono ?_; rintro e w2 ⟨rfl, hb2'⟩; have hb2 : Below w1.heap.size w1 w2 := ((Below.refl _ _).drew).trans hb2'))
        | ((go_at_call 23; refine (CP.out _).mono ?_; rintro e w3 ⟨rfl, hb3'⟩; have hb3 : Below w1.heap.size w1 w3 := hb2.trans (hb3'.mono hb2.size)))
        | ((go_at_call 25; refine (CD.out _).mono ?_; rintro e w3 ⟨rfl, hb3'⟩; have hb3 : Below w1.heap.size w1 w3 := hb2.trans (hb3'.mono hb2.size)))
        | ((go_at_call 38; refine (CE.out _ hb3).mono ?_; rintro e w4 ⟨hst, hm4⟩; have HST := Hid.mk' hst; obtain ⟨B', rfl, -⟩ := hst)))
    all_goals
      go_wp2
      go_ret2
      exact HST.out

set_option maxHeartbeats 8000000 in
set_option maxRecDepth 50000 in
theorem kPlay_delete (B : Bank) (r : RSt) (n : Int) (o : KStep) (w : World) (hO : Okay w B) (ha : Agree B r) (hm : B.made < 4611686018427387904) (ho : o.ok) (hk : kN o.K 6 = 3) :
    Calls Tryz.prog 18 #[ptrV B.sb, .int .i64 n, o.val] w fun e w' => StepOut w.heap.size w B (playR r n o) e w' := by
  obtain ⟨o0, oF, oA, oB⟩ := o
  obtain ⟨i0, iF, iA, iB⟩ := ho
  simp only at i0 iF iA iB hk
  have HE : Hid (playR r n ⟨o0, oF, oA, oB⟩ = deleteR r n (pathK (kN oA 84))) := by rw [Hid, playR, if_neg (by simp only; omega), if_pos hk]
  rw [HE.out]
  clear HE
  unfold KStep.val
  obtain ⟨w1, hw1⟩ : ∃ w1, w1 = w.alloc (.cells #[.int .i64 o0, .int .i64 oF, .int .i64 oA, .int .i64 oB] 35) := ⟨_, rfl⟩
  have hb1 : Below w.heap.size w w1 := by rw [hw1]; exact (Below.refl _ _).alloc (Nat.le_refl _) _
  have hn1 : w1.heap[w.heap.size]? = some (.cells #[.int .i64 o0, .int .i64 oF, .int .i64 oA, .int .i64 oB] 35 (0, 0)) := by rw [hw1]; exact heap_alloc_new _ _
  have hs1 : w.heap.size < w1.heap.size := (Array.getElem?_eq_some_iff.1 hn1).1
  have c0 : w1.cell? ⟨w.heap.size, 0, none⟩ = some (.int .i64 o0) := (blk_cell hn1 0).trans rfl
  have c2 : w1.cell? ⟨w.heap.size, 2, none⟩ = some (.int .i64 oA) := (blk_cell hn1 2).trans rfl
  have CK := kPick_any o0 6 w1 i0 (by omega) (by omega)
  have CP : Hid (∀ W, Calls Tryz.prog 23 #[.int .i64 oA] W fun e w' => KText W (pathK (kN oA 84)) e w') := fun W => kPath_any oA W iA
  have hlp := pathK_short (kN oA 84)
  generalize pathK (kN oA 84) = pp at *
  have CE : Hid (∀ W, Below w1.heap.size w1 W → Calls Tryz.prog 44 #[ptrV B.sb, .int .i64 n, SV pp] W fun e w' => PlayMid w w1 B (deleteR r n pp) e w') := fun W hW =>
    (storeDelete_any B r n pp W ((hO.below hb1).below hW) ha hm (by unfold maxLen; omega)).mono fun e w' h => play_mid hO hb1 hs1 hW h
  have HW1 : Hid _ := hw1
  clear hw1 hb1 hn1 hO ha hm
  generalize kN o0 6 = kk at *
  generalize deleteR r n pp = oo at *
  subst hk
  go_enter Tryz.func18, Tryz.ntmps18
  go_wp2_with fail
  rw [← HW1.out]
  refine CK.mono ?_
  rintro e w1 ⟨rfl, rfl⟩
  clear HW1
  go_wp2_with fail
  refine (CP.out _).mono ?_
  rintro e w2 ⟨rfl, hb2⟩
  have HB2 : Hid _ := hb2
  clear hb2 c0 c2
  go_wp2_with fail
  refine (CE.out _ HB2.out).mono ?_
  rintro e w4 ⟨hst, hm4⟩
  have HST := Hid.mk' hst
  obtain ⟨B', rfl, -⟩ := hst
  clear hm4
  go_wp2
  go_ret2
  exact HST.out

end Go.Proofs.YtdcbgfhkfmohiaaGreatDoor
