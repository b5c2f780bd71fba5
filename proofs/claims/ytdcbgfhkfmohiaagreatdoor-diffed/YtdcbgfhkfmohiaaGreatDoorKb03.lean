/- Plain: the document's answer on files is what the edits do to trees: Put, Delete. -/
import Derived.Test.YtdcbgfhkfmohiaaGreatDoorKb02
namespace Go.Proofs.YtdcbgfhkfmohiaaGreatDoor

def toF (l : List NF) : List Fl := l.map fun f => (joinP f.1, f.2)
def OkN (q : List Str) : Prop := q ≠ [] ∧ ∀ x ∈ q, isNameL x false = true
def ValidN (l : List NF) : Prop := ∀ f ∈ l, OkN f.1

theorem name_free {x : Str} (h : isNameL x false = true) : Free x ∧ x ≠ [] := by
  unfold isNameL at h
  simp only [Bool.and_eq_true, decide_eq_true_eq, List.all_eq_true] at h
  refine ⟨?_, ?_⟩
  · intro b hb e
    have := h.2 b hb
    subst e
    simp [okByte] at this
  · intro e; subst e; simp at h

theorem OkN.split {q : List Str} (h : OkN q) : splitL 47 (joinP q) = q := split_join h.1 fun x hx => (name_free (h.2 x hx)).1
theorem OkN.inj {q p : List Str} (h : OkN q) (h' : OkN p) : joinP q = joinP p ↔ q = p := by
  constructor
  · intro e; rw [← h.split, ← h'.split, e]
  · intro e; rw [e]
theorem OkN.root {q : List Str} (h : OkN q) : joinP q ≠ [47] := by
  intro e
  have h1 := h.split
  rw [e] at h1
  have h2 : splitL 47 [47] = [[], []] := by simp [splitL]
  rw [h2] at h1
  have := (name_free (h.2 [] (by rw [← h1]; simp))).2
  exact this rfl
theorem OkN.app {q R : List Str} (h : OkN q) (h' : ∀ x ∈ R, isNameL x false = true) : OkN (q ++ R) :=
  ⟨by simp [h.1], fun x hx => by rw [List.mem_append] at hx; rcases hx with hx | hx; exact h.2 x hx; exact h' x hx⟩
theorem OkN.tail {q R : List Str} (h : OkN (q ++ R)) (hR : R ≠ []) : OkN R := ⟨hR, fun x hx => h.2 x (by simp [hx])⟩

/-- below, by names. -/
theorem below_names {P q : List Str} (hP : OkN P) (hq : OkN q) : (belowL (joinP P) (joinP q) = [] ∧ ¬ ∃ R, R ≠ [] ∧ P = q ++ R) ∨ (∃ R, R ≠ [] ∧ P = q ++ R ∧ belowL (joinP P) (joinP q) = joinP R) := by
  rcases belowL_names (p := joinP P) hq.root (by rw [hP.split]; exact fun x hx => (name_free (hP.2 x hx)).2) with ⟨h1, h2⟩ | ⟨h1, h2⟩
  · rw [hP.split, hq.split] at h2; exact .inl ⟨h1, h2⟩
  · rw [hP.split, hq.split] at h2
    exact .inr ⟨_, splitL_ne _ _, h2, (join_split _).symm⟩
theorem joinP_ne {R : List Str} (h : OkN R) : joinP R ≠ [] := by
  intro e
  have := h.split
  rw [e] at this
  have h2 := (name_free (h.2 [] (by rw [← this]; simp [splitL]))).2
  exact h2 rfl
theorem below_empty {P q : List Str} (hP : OkN P) (hq : OkN q) : (belowL (joinP P) (joinP q)).isEmpty = true ↔ ¬ ∃ R, R ≠ [] ∧ P = q ++ R := by
  rcases below_names hP hq with ⟨h1, h2⟩ | ⟨R, h1, h2, h3⟩
  · rw [h1]; simp only [List.isEmpty_nil, true_iff]; exact h2
  · constructor
    · intro h; rw [h3] at h; exact absurd (List.isEmpty_iff.1 h) (joinP_ne (OkN.tail (h2 ▸ hP) h1))
    · intro h; exact absurd ⟨R, h1, h2⟩ h

theorem get_names {l : List NF} {q : List Str} (hl : ValidN l) (hq : OkN q) : getI (toF l) (joinP q) < 0 ↔ ∀ f ∈ l, f.1 ≠ q := by
  constructor
  · intro h f hf e
    have hg : getL (toF l) (joinP q) = none := by
      unfold getI at h; split at h
      · omega
      · assumption
    unfold getL at hg
    rw [List.findIdx?_eq_none_iff] at hg
    have := hg (joinP f.1, f.2) (List.mem_map.2 ⟨f, hf, rfl⟩)
    simp [e] at this
  · intro h
    rw [getI_miss]
    · omega
    · intro j hj
      obtain ⟨f, hf, e⟩ := List.mem_map.1 (List.getElem_mem hj)
      rw [beq_eq_false_iff_ne, ← e]
      simp only
      rw [Ne, (hl f hf).inj hq]
      exact h f hf

theorem crossed_names {l : List NF} {q : List Str} (hl : ValidN l) (hq : OkN q) : crossedL (toF l) (joinP q) = true ↔ ∃ f ∈ l, ∃ R, R ≠ [] ∧ q = f.1 ++ R := by
  unfold crossedL
  rw [List.any_eq_true]
  constructor
  · rintro ⟨g, hg, h⟩
    obtain ⟨f, hf, rfl⟩ := List.mem_map.1 hg
    simp only [Bool.not_eq_true', ← Bool.not_eq_true, below_empty hq (hl f hf)] at h
    exact ⟨f, hf, Classical.not_not.1 h⟩
  · rintro ⟨f, hf, h⟩
    refine ⟨(joinP f.1, f.2), List.mem_map.2 ⟨f, hf, rfl⟩, ?_⟩
    simp only [Bool.not_eq_true', ← Bool.not_eq_true, below_empty hq (hl f hf)]
    exact fun h2 => h2 h

theorem isDir_names {l : List NF} {q : List Str} (hl : ValidN l) (hq : OkN q) : isDirL (toF l) (joinP q) = true ↔ ∃ f ∈ l, ∃ R, R ≠ [] ∧ f.1 = q ++ R := by
  have hr : (joinP q == [47]) = false := by rw [beq_eq_false_iff_ne]; exact hq.root
  unfold isDirL
  rw [hr, Bool.false_or, Bool.not_eq_true', ← Bool.not_eq_true, List.isEmpty_iff]
  unfold inL
  rw [List.flatMap_eq_nil_iff]
  constructor
  · intro h
    refine Classical.byContradiction fun h2 => h fun g hg => ?_
    obtain ⟨f, hf, rfl⟩ := List.mem_map.1 hg
    rw [if_pos]
    rw [below_empty (hl f hf) hq]
    exact fun h3 => h2 ⟨f, hf, h3⟩
  · rintro ⟨f, hf, h⟩ h2
    have := h2 (joinP f.1, f.2) (List.mem_map.2 ⟨f, hf, rfl⟩)
    simp only at this
    split at this
    · rename_i h3; rw [below_empty (hl f hf) hq] at h3; exact h3 h
    · simp at this

theorem prefix_iff {q P : List Str} : q <+: P ↔ P = q ∨ ∃ R, R ≠ [] ∧ P = q ++ R := by
  constructor
  · rintro ⟨R, rfl⟩
    by_cases h : R = []
    · subst h; simp
    · exact .inr ⟨R, h, rfl⟩
  · rintro (rfl | ⟨R, _, rfl⟩)
    · exact List.prefix_rfl
    · exact List.prefix_append _ _

theorem without_names {l : List NF} {q : List Str} (hl : ValidN l) (hq : OkN q) : withoutL (toF l) (joinP q) = toF (l.filter fun f => decide (¬ q <+: f.1)) := by
  induction l with
  | nil => rfl
  | cons f l ih =>
    have ih := ih fun g hg => hl g (by simp [hg])
    have hf := hl f (by simp)
    have e : withoutL (toF (f :: l)) (joinP q) = (if (joinP f.1 == joinP q) || !(belowL (joinP f.1) (joinP q)).isEmpty then [] else [(joinP f.1, f.2)]) ++ withoutL (toF l) (joinP q) := by
      simp only [withoutL, toF, List.map_cons, List.flatMap_cons]
    rw [e, ih, List.filter_cons]
    by_cases hp : q <+: f.1
    · have h2 : ¬ (decide (¬ q <+: f.1)) = true := by simpa using hp
      rw [if_neg h2, if_pos, List.nil_append]
      rw [prefix_iff] at hp
      rcases hp with h | h
      · rw [h]; simp
      · have : ¬ (belowL (joinP f.1) (joinP q)).isEmpty = true := by rw [below_empty hf hq]; exact fun h3 => h3 h
        simp [this]
    · have h2 : (decide (¬ q <+: f.1)) = true := by simpa using hp
      rw [if_pos h2, if_neg]
      · simp [toF]
      · rw [prefix_iff, not_or] at hp
        have h3 := (below_empty hf hq).2 hp.2
        have h4 : (joinP f.1 == joinP q) = false := by rw [beq_eq_false_iff_ne, Ne, hf.inj hq]; exact hp.1
        simp [h3, h4]

def insN : List NF → NF → List NF
  | [], f => [f]
  | g :: l, f => if f.1 = g.1 then f :: l else if lessS f.1 g.1 then f :: g :: l else g :: insN l f

theorem insN_mem {l : List NF} (hs : SortedN l) (f : NF) : ∀ x, x ∈ insN l f ↔ x = f ∨ (x ∈ l ∧ x.1 ≠ f.1) := by
  induction l with
  | nil => intro x; simp [insN]
  | cons g l ih =>
    unfold SortedN at hs
    rw [List.pairwise_cons] at hs
    have ih := ih hs.2
    intro x
    rw [insN]
    by_cases e : f.1 = g.1
    · rw [if_pos e]
      simp only [List.mem_cons]
      constructor
      · rintro (h | h)
        · exact .inl h
        · refine .inr ⟨.inr h, ?_⟩
          intro e2; have := hs.1 x h; rw [e2, e, ls_irrefl] at this; simp at this
      · rintro (h | ⟨h | h, h2⟩)
        · exact .inl h
        · subst h; exact absurd e.symm h2
        · exact .inr h
    · rw [if_neg e]
      by_cases hl : lessS f.1 g.1 = true
      · rw [if_pos hl]
        simp only [List.mem_cons]
        constructor
        · rintro (h | h | h)
          · exact .inl h
          · exact .inr ⟨.inl h, by rw [h]; exact Ne.symm e⟩
          · refine .inr ⟨.inr h, ?_⟩
            intro e2; have := ls_trans hl (hs.1 x h); rw [e2, ls_irrefl] at this; simp at this
        · rintro (h | ⟨h | h, _⟩)
          · exact .inl h
          · exact .inr (.inl h)
          · exact .inr (.inr h)
      · rw [if_neg hl]
        simp only [List.mem_cons, ih x]
        constructor
        · rintro (h | h | ⟨h, h2⟩)
          · exact .inr ⟨.inl h, by rw [h]; exact Ne.symm e⟩
          · exact .inl h
          · exact .inr ⟨.inr h, h2⟩
        · rintro (h | ⟨h | h, h2⟩)
          · exact .inr (.inl h)
          · exact .inl h
          · exact .inr (.inr ⟨h, h2⟩)

theorem insN_sorted {l : List NF} (hs : SortedN l) (f : NF) : SortedN (insN l f) := by
  induction l with
  | nil => unfold SortedN insN; simp
  | cons g l ih =>
    have hs0 := hs
    unfold SortedN at hs
    rw [List.pairwise_cons] at hs
    rw [insN]
    by_cases e : f.1 = g.1
    · rw [if_pos e]; unfold SortedN; rw [List.pairwise_cons]
      exact ⟨fun x hx => by rw [e]; exact hs.1 x hx, hs.2⟩
    · rw [if_neg e]
      by_cases hl : lessS f.1 g.1 = true
      · rw [if_pos hl]; unfold SortedN; rw [List.pairwise_cons]
        refine ⟨fun x hx => ?_, hs0⟩
        simp at hx; rcases hx with rfl | hx
        · exact hl
        · exact ls_trans hl (hs.1 x hx)
      · rw [if_neg hl]; unfold SortedN; rw [List.pairwise_cons]
        refine ⟨fun x hx => ?_, ih hs.2⟩
        rcases (insN_mem hs.2 f x).1 hx with rfl | ⟨hx, _⟩
        · exact ls_total (by simpa using hl) e
        · exact hs.1 x hx

theorem less_names {a b : List Str} (ha : OkN a) (hb : OkN b) : lessL (joinP a) (joinP b) = lessS a b := by rw [lessL, ha.split, hb.split]

theorem fold_done {l : List NF} {f : NF} {acc : List Fl} (hl : ValidN l) (hf : OkN f.1) (hs : ∀ g ∈ l, lessS f.1 g.1 = true) : (toF l).foldl (putStep (joinP f.1, f.2)) (acc, true) = (acc ++ toF l, true) := by
  induction l generalizing acc with
  | nil => simp [toF]
  | cons g l ih =>
    have hg := hl g (by simp)
    have hne : (joinP g.1 == joinP f.1) = false := by
      rw [beq_eq_false_iff_ne, Ne, hg.inj hf]; intro e; have := hs g (by simp); rw [e, ls_irrefl] at this; simp at this
    have e : toF (g :: l) = (joinP g.1, g.2) :: toF l := rfl
    rw [e, List.foldl_cons]
    have h2 : putStep (joinP f.1, f.2) (acc, true) (joinP g.1, g.2) = (acc ++ [(joinP g.1, g.2)], true) := by simp [putStep, hne]
    rw [h2, ih (fun g hg => hl g (by simp [hg])) (fun g hg => hs g (by simp [hg]))]
    simp

theorem fold_put {l : List NF} {f : NF} {acc : List Fl} (hl : ValidN l) (hf : OkN f.1) (hs : SortedN l) :
    (if ((toF l).foldl (putStep (joinP f.1, f.2)) (acc, false)).2 then ((toF l).foldl (putStep (joinP f.1, f.2)) (acc, false)).1 else ((toF l).foldl (putStep (joinP f.1, f.2)) (acc, false)).1 ++ [(joinP f.1, f.2)]) = acc ++ toF (insN l f) := by
  induction l generalizing acc with
  | nil => simp [toF, insN]
  | cons g l ih =>
    have hg := hl g (by simp)
    have hl' : ValidN l := fun g hg => hl g (by simp [hg])
    unfold SortedN at hs
    rw [List.pairwise_cons] at hs
    have e : toF (g :: l) = (joinP g.1, g.2) :: toF l := rfl
    rw [e, List.foldl_cons, insN]
    by_cases h1 : f.1 = g.1
    · have h2 : putStep (joinP f.1, f.2) (acc, false) (joinP g.1, g.2) = (acc ++ [(joinP f.1, f.2)], true) := by simp [putStep, h1]
      rw [h2, fold_done hl' hf (fun x hx => by rw [h1]; exact hs.1 x hx), if_pos h1]
      simp [toF]
    · have hne : (joinP g.1 == joinP f.1) = false := by rw [beq_eq_false_iff_ne, Ne, hg.inj hf]; exact Ne.symm h1
      have hne2 : (joinP f.1 == joinP g.1) = false := by rw [beq_eq_false_iff_ne, Ne, hf.inj hg]; exact h1
      rw [if_neg h1]
      by_cases h3 : lessS f.1 g.1 = true
      · have h2 : putStep (joinP f.1, f.2) (acc, false) (joinP g.1, g.2) = (acc ++ [(joinP f.1, f.2), (joinP g.1, g.2)], true) := by simp [putStep, hne, less_names hf hg, h3]
        rw [h2, fold_done hl' hf (fun x hx => ls_trans h3 (hs.1 x hx)), if_pos h3]
        simp [toF]
      · have h2 : putStep (joinP f.1, f.2) (acc, false) (joinP g.1, g.2) = (acc ++ [(joinP g.1, g.2)], false) := by simp [putStep, hne, hne2, less_names hf hg, h3]
        rw [h2, ih hl' hs.2, if_neg h3]
        simp [toF]

theorem put_names {l : List NF} {f : NF} (hl : ValidN l) (hf : OkN f.1) (hs : SortedN l) : putL (toF l) (joinP f.1, f.2) = toF (insN l f) := by
  have := fold_put (acc := []) hl hf hs
  rw [List.nil_append] at this
  rw [← this]; rfl

/-- The files of a tree have good paths. -/
theorem valid_files {es : Ents} (h : WFE es) : ValidN (filesE es) ∧ ∀ f ∈ filesE es, f.2.length ≤ 30 := by
  have key : ∀ (p : List Str) (t : Tree), WFT t → ∀ d, sub t p = some (.file d) → (∀ x ∈ p, isNameL x false = true) ∧ d.length ≤ 30 := by
    intro p
    induction p with
    | nil => intro t ht d hs; rw [sub] at hs; simp at hs; subst hs; unfold WFT at ht; exact ⟨by simp, ht⟩
    | cons x r ih =>
      intro t ht d hs
      cases t with
      | file e => simp [sub] at hs
      | dir es' =>
        unfold WFT at ht
        rw [sub] at hs
        cases hf : findE es' x with
        | none => rw [hf] at hs; simp at hs
        | some u =>
          rw [hf] at hs
          have hm := ht.2.mem _ (findE_mem hf)
          obtain ⟨h1, h2⟩ := ih u hm.2 d hs
          exact ⟨fun y hy => by simp at hy; rcases hy with rfl | hy; exact hm.1; exact h1 y hy, h2⟩
  have : ∀ p d, (p, d) ∈ filesE es → OkN p ∧ d.length ≤ 30 := by
    intro p d hp
    obtain ⟨x, r, t, rfl, h1, h2⟩ := (mem_filesE es h p d).1 hp
    have hm := h.mem _ (findE_mem h1)
    obtain ⟨h3, h4⟩ := key r t hm.2 d h2
    exact ⟨⟨by simp, fun y hy => by simp at hy; rcases hy with rfl | hy; exact hm.1; exact h3 y hy⟩, h4⟩
  exact ⟨fun f hf => (this f.1 f.2 hf).1, fun f hf => (this f.1 f.2 hf).2⟩

theorem filter_sorted {l : List NF} (h : SortedN l) (q : NF → Bool) : SortedN (l.filter q) := List.Pairwise.filter q h

/-- Put: the files of the tree are the document's. -/
theorem put_files {es : Ents} {q : List Str} {d : Str} (h : WFE es) (hq : OkN q) (hd : d.length ≤ 30) (hb : look (some (.dir es)) q ≠ .blocked) (hdir : ∀ R e, R ≠ [] → fileAt (.dir es) (q ++ R) ≠ some e) :
    filesE (putE es q (.file d)) = insN (filesE es) (q, d) := by
  have hw : WFE (putE es q (.file d)) := (put_wf h hq.2 (by unfold WFT; exact hd)).1
  refine sorted_unique (sorted_filesE _ hw) (insN_sorted (sorted_filesE _ h) _) ?_
  rintro ⟨p, e⟩
  rw [mem_root hw, insN_mem (sorted_filesE _ h), mem_root h, fileAt_put hq.1 hb]
  by_cases hp : q <+: p
  · rw [if_pos hp, fileAt_file]
    obtain ⟨R, rfl⟩ := hp
    rw [List.drop_left]
    by_cases hR : R = []
    · subst hR; simp; constructor
      · intro h; exact h.symm
      · intro h; exact h.symm
    · rw [if_neg hR]
      constructor
      · intro h; simp at h
      · rintro (h2 | ⟨h2, _⟩)
        · simp at h2; exact absurd h2.1 hR
        · exact absurd h2 (hdir R e hR)
  · rw [if_neg hp]
    constructor
    · intro h2
      refine .inr ⟨h2, ?_⟩
      intro e2; simp only at e2; subst e2; exact hp List.prefix_rfl
    · rintro (h2 | ⟨h2, _⟩)
      · simp at h2; rw [h2.1] at hp; exact absurd List.prefix_rfl hp
      · exact h2

/-- Delete: the files of the tree are the document's. -/
theorem remove_files {es : Ents} {q : List Str} (h : WFE es) (hq : OkN q) (hb : look (some (.dir es)) q ≠ .blocked) : filesE (removeE es q) = (filesE es).filter fun f => decide (¬ q <+: f.1) := by
  have hw : WFE (removeE es q) := remove_wf h hq.2
  refine sorted_unique (sorted_filesE _ hw) (filter_sorted (sorted_filesE _ h) _) ?_
  rintro ⟨p, e⟩
  rw [mem_root hw, List.mem_filter, mem_root h, fileAt_remove hq.1 hb]
  by_cases hp : q <+: p
  · rw [if_pos hp]; simp [hp]
  · rw [if_neg hp]; simp [hp]

/-- What look tells, by the document's files. -/
theorem look_names {es : Ents} {q : List Str} (h : WFE es) (hq : OkN q) :
    (look (some (.dir es)) q = .atFile ↔ ¬ getI (toF (filesE es)) (joinP q) < 0) ∧ (look (some (.dir es)) q = .atDir ↔ isDirL (toF (filesE es)) (joinP q) = true) ∧ (look (some (.dir es)) q = .blocked ↔ crossedL (toF (filesE es)) (joinP q) = true) := by
  have hv := (valid_files h).1
  rw [get_names hv hq, isDir_names hv hq, crossed_names hv hq]
  by_cases he : es = []
  · subst he
    obtain ⟨hq1, hq2⟩ := hq
    cases q with
    | nil => exact absurd rfl hq1
    | cons x r => simp [look, findE, filesE]
  · have hw : WFT (.dir es) := by unfold WFT; exact ⟨he, h⟩
    obtain ⟨h1, h2, h3⟩ := look_files q (.dir es) hw
    refine ⟨?_, ?_, ?_⟩
    · rw [h1]
      constructor
      · rintro ⟨d, hd⟩ hall; exact hall (q, d) ((mem_root h q d).2 hd) rfl
      · intro hn
        refine Classical.byContradiction fun hc => hn fun f hf e => hc ⟨f.2, ?_⟩
        rw [← e]; exact (mem_root h f.1 f.2).1 hf
    · rw [h2]
      constructor
      · rintro ⟨R, d, hR, hd⟩; exact ⟨(q ++ R, d), (mem_root h _ _).2 hd, R, hR, rfl⟩
      · rintro ⟨f, hf, R, hR, e⟩; exact ⟨R, f.2, hR, by rw [← e]; exact (mem_root h f.1 f.2).1 hf⟩
    · rw [h3]
      constructor
      · rintro ⟨P, R, d, hR, e, hd⟩; exact ⟨(P, d), (mem_root h _ _).2 hd, R, hR, e⟩
      · rintro ⟨f, hf, R, hR, e⟩; exact ⟨f.1, R, f.2, hR, e, (mem_root h f.1 f.2).1 hf⟩

end Go.Proofs.YtdcbgfhkfmohiaaGreatDoor

/- Plain: Move. -/
namespace Go.Proofs.YtdcbgfhkfmohiaaGreatDoor

mutual
def heightT : Tree → Nat
  | .file _ => 0
  | .dir es => heightE es
def heightE : Ents → Nat
  | [] => 0
  | (_, t) :: es => max (1 + heightT t) (heightE es)
end

mutual
theorem height_le : ∀ (t : Tree), WFT t → ∀ k, heightT t ≤ k ↔ ∀ p d, fileAt t p = some d → p.length ≤ k
  | .file e, _, k => by
    unfold heightT
    simp only [Nat.zero_le, true_iff]
    intro p d h; rw [fileAt_file] at h; split at h
    · rename_i e; subst e; simp
    · simp at h
  | .dir es, h, k => by
    unfold heightT
    unfold WFT at h
    rw [heightE_le es h.2 k]
    constructor
    · intro h2 p d hp
      cases p with
      | nil => simp
      | cons x r => exact h2 x r d hp
    · intro h2 x r d hp; exact h2 (x :: r) d hp
theorem heightE_le : ∀ (es : Ents), WFE es → ∀ k, heightE es ≤ k ↔ ∀ x r d, fileAt (.dir es) (x :: r) = some d → (x :: r).length ≤ k
  | [], _, k => by
    unfold heightE
    simp only [Nat.zero_le, true_iff]
    intro x r d h; rw [fileAt_dir, findE] at h; simp at h
  | (y, t) :: es, h, k => by
    unfold WFE at h
    unfold heightE
    rw [Nat.max_le, heightE_le es h.2.2.2 k]
    have ih := height_le t h.2.1 (k - 1)
    constructor
    · rintro ⟨h1, h2⟩ x r d hp
      rw [fileAt_dir, findE] at hp
      by_cases e : y = x
      · rw [if_pos e] at hp
        have := ih.1 (by omega) r d hp
        simp; omega
      · rw [if_neg e] at hp
        exact h2 x r d (by rw [fileAt_dir]; exact hp)
    · intro h2
      refine ⟨?_, ?_⟩
      · obtain ⟨p, d, hp⟩ := WFT.some t h.2.1
        have hk : ∀ p d, fileAt t p = some d → p.length + 1 ≤ k := by
          intro p d hp
          have := h2 y p d (by rw [fileAt_dir, findE, if_pos rfl]; exact hp)
          simpa using this
        have h0 := hk p d hp
        have := ih.2 (fun p d hp => by have := hk p d hp; omega)
        omega
      · intro x r d hp
        refine h2 x r d ?_
        rw [fileAt_dir] at hp ⊢
        cases hf : findE es x with
        | none => rw [hf] at hp; simp at hp
        | some u =>
          rw [hf] at hp
          rw [findE, if_neg (bl_ne (h.2.2.1 _ (findE_mem hf))), hf]; exact hp
end

theorem sub_app (t : Tree) (q r : List Str) : sub t (q ++ r) = (sub t q).bind fun u => sub u r := by
  induction q generalizing t with
  | nil => rw [List.nil_append, sub]; rfl
  | cons x q ih =>
    cases t with
    | file d => simp [sub]
    | dir es =>
      rw [List.cons_append, sub, sub]
      cases findE es x with
      | none => rfl
      | some u => exact ih u
theorem fileAt_sub {t n : Tree} {q : List Str} (h : sub t q = some n) (r : List Str) : fileAt n r = fileAt t (q ++ r) := by
  unfold fileAt; rw [sub_app, h]; rfl
theorem sub_wf : ∀ (q : List Str) {t n : Tree}, WFT t → sub t q = some n → WFT n := by
  intro q
  induction q with
  | nil => intro t n h hs; rw [sub] at hs; simp at hs; subst hs; exact h
  | cons x q ih =>
    intro t n h hs
    cases t with
    | file d => simp [sub] at hs
    | dir es =>
      unfold WFT at h
      rw [sub] at hs
      cases hf : findE es x with
      | none => rw [hf] at hs; simp at hs
      | some u => rw [hf] at hs; exact ih (h.2.mem _ (findE_mem hf)).2 hs

def moveStepN (s t : List Str) (m : List NF) (f : NF) : List NF := if s <+: f.1 then insN m (t ++ f.1.drop s.length, f.2) else m

theorem moveN_sorted {s t : List Str} {l m : List NF} (hm : SortedN m) : SortedN (l.foldl (moveStepN s t) m) := by
  induction l generalizing m with
  | nil => exact hm
  | cons f l ih =>
    rw [List.foldl_cons]; apply ih; unfold moveStepN; split
    · exact insN_sorted hm _
    · exact hm

theorem drop_inj {s p q : List Str} (hp : s <+: p) (hq : s <+: q) (h : p.drop s.length = q.drop s.length) : p = q := by
  obtain ⟨a, rfl⟩ := hp
  obtain ⟨b, rfl⟩ := hq
  simp at h; rw [h]

theorem moveN_mem {s t : List Str} {l m : List NF} (hl : SortedN l) (hm : SortedN m) : ∀ x, x ∈ l.foldl (moveStepN s t) m ↔ (x ∈ m ∧ ∀ f ∈ l, s <+: f.1 → x.1 ≠ t ++ f.1.drop s.length) ∨ ∃ f ∈ l, s <+: f.1 ∧ x = (t ++ f.1.drop s.length, f.2) := by
  induction l generalizing m with
  | nil => intro x; simp
  | cons f l ih =>
    intro x
    unfold SortedN at hl
    rw [List.pairwise_cons] at hl
    rw [List.foldl_cons]
    by_cases hs : s <+: f.1
    · have e : moveStepN s t m f = insN m (t ++ f.1.drop s.length, f.2) := by unfold moveStepN; rw [if_pos hs]
      rw [e, ih hl.2 (insN_sorted hm _), insN_mem hm]
      constructor
      · rintro (⟨h1 | ⟨h1, h2⟩, h3⟩ | ⟨g, hg, h1, h2⟩)
        · exact .inr ⟨f, by simp, hs, h1⟩
        · refine .inl ⟨h1, ?_⟩
          intro g hg hsg; simp at hg; rcases hg with rfl | hg
          · exact h2
          · exact h3 g hg hsg
        · exact .inr ⟨g, by simp [hg], h1, h2⟩
      · rintro (⟨h1, h2⟩ | ⟨g, hg, h1, h2⟩)
        · exact .inl ⟨.inr ⟨h1, h2 f (by simp) hs⟩, fun g hg => h2 g (by simp [hg])⟩
        · simp at hg; rcases hg with rfl | hg
          · refine .inl ⟨.inl h2, ?_⟩
            intro g' hg' hsg e2
            rw [h2] at e2; simp at e2
            have e3 := drop_inj hs hsg e2
            have := hl.1 g' hg'; rw [e3, ls_irrefl] at this; simp at this
          · exact .inr ⟨g, hg, h1, h2⟩
    · have e : moveStepN s t m f = m := by unfold moveStepN; rw [if_neg hs]
      rw [e, ih hl.2 hm]
      constructor
      · rintro (⟨h1, h2⟩ | ⟨g, hg, h1, h2⟩)
        · refine .inl ⟨h1, ?_⟩
          intro g hg hsg; simp at hg; rcases hg with rfl | hg
          · exact absurd hsg hs
          · exact h2 g hg hsg
        · exact .inr ⟨g, by simp [hg], h1, h2⟩
      · rintro (⟨h1, h2⟩ | ⟨g, hg, h1, h2⟩)
        · exact .inl ⟨h1, fun g hg => h2 g (by simp [hg])⟩
        · simp at hg; rcases hg with rfl | hg
          · exact absurd h1 hs
          · exact .inr ⟨g, hg, h1, h2⟩

theorem insN_valid {l : List NF} {f : NF} (hs : SortedN l) (hl : ValidN l) (hf : OkN f.1) : ValidN (insN l f) := by
  intro x hx
  rcases (insN_mem hs f x).1 hx with rfl | ⟨h, _⟩
  · exact hf
  · exact hl x h

/-- No file would lie too deep. -/
def Shallow (s t : List Str) (l : List NF) : Prop := ∀ f ∈ l, ∀ R, R ≠ [] → f.1 = s ++ R → (t ++ R).length ≤ 5

theorem move_fold {s t : List Str} {l m : List NF} (hs : OkN s) (ht : OkN t) (hl : ValidN l) (hm : SortedN m) (hv : ValidN m) :
    (Shallow s t l → (toF l).foldl (moveStep (joinP s) (joinP t)) (some (toF m)) = some (toF (l.foldl (moveStepN s t) m))) ∧ (¬ Shallow s t l → (toF l).foldl (moveStep (joinP s) (joinP t)) (some (toF m)) = none) := by
  induction l generalizing m with
  | nil => exact ⟨fun _ => rfl, fun h => absurd (fun f hf => by simp at hf) h⟩
  | cons f l ih =>
    have hf := hl f (by simp)
    have hl' : ValidN l := fun g hg => hl g (by simp [hg])
    have e : toF (f :: l) = (joinP f.1, f.2) :: toF l := rfl
    rw [e, List.foldl_cons, List.foldl_cons]
    by_cases hp : s <+: f.1
    · rw [prefix_iff] at hp
      rcases hp with hp | ⟨R, hR, hp⟩
      · have h1 : moveStep (joinP s) (joinP t) (some (toF m)) (joinP f.1, f.2) = some (toF (insN m (t, f.2))) := by
          rw [moveStep]; simp only [Option.bind_some]; rw [if_pos (by rw [hp]; simp)]
          rw [put_names (f := (t, f.2)) hv ht hm]
        have h2 : moveStepN s t m f = insN m (t, f.2) := by
          rw [moveStepN, if_pos (by rw [hp]; exact List.prefix_rfl), hp]; simp
        rw [h1, h2]
        have := ih hl' (insN_sorted hm (t, f.2)) (insN_valid hm hv ht)
        refine ⟨fun h => this.1 fun g hg => h g (by simp [hg]), fun h => this.2 fun h3 => h ?_⟩
        intro g hg R' hR' e'
        simp at hg; rcases hg with rfl | hg
        · rw [hp] at e'; simp at e'; exact absurd e' hR'
        · exact h3 g hg R' hR' e'
      · have hne : ¬ (joinP f.1 == joinP s) = true := by rw [beq_iff_eq, hf.inj hs, hp]; simp; exact hR
        have hRk : OkN R := OkN.tail (hp ▸ hf) hR
        have hbl : belowL (joinP f.1) (joinP s) = joinP R := by
          rcases below_names hf hs with ⟨_, h2⟩ | ⟨R', h1, h2, h3⟩
          · exact absurd ⟨R, hR, hp⟩ h2
          · rw [h3]; rw [hp] at h2; simp at h2; rw [h2]
        have hemp : ¬ (belowL (joinP f.1) (joinP s)).isEmpty = true := by rw [below_empty hf hs]; exact fun h => h ⟨R, hR, hp⟩
        have hj : joinP t ++ 47 :: joinP R = joinP (t ++ R) := (joinP_app ht.1 hR).symm
        have htR : OkN (t ++ R) := ht.app hRk.2
        have h2 : moveStepN s t m f = insN m (t ++ R, f.2) := by
          rw [moveStepN, if_pos (by rw [hp]; exact List.prefix_append _ _), hp]; simp
        by_cases h5 : (t ++ R).length ≤ 5
        · have h1 : moveStep (joinP s) (joinP t) (some (toF m)) (joinP f.1, f.2) = some (toF (insN m (t ++ R, f.2))) := by
            rw [moveStep]; simp only [Option.bind_some]; rw [if_neg hne, if_neg hemp, hbl, hj, htR.split, if_neg (by omega)]
            rw [put_names (f := (t ++ R, f.2)) hv htR hm]
          rw [h1, h2]
          have := ih hl' (insN_sorted hm (t ++ R, f.2)) (insN_valid hm hv htR)
          refine ⟨fun h => this.1 fun g hg => h g (by simp [hg]), fun h => this.2 fun h3 => h ?_⟩
          intro g hg R' hR' e'
          simp at hg; rcases hg with rfl | hg
          · rw [hp] at e'; simp at e'; rw [← e']; exact h5
          · exact h3 g hg R' hR' e'
        · have h1 : moveStep (joinP s) (joinP t) (some (toF m)) (joinP f.1, f.2) = none := by
            rw [moveStep]; simp only [Option.bind_some]; rw [if_neg hne, if_neg hemp, hbl, hj, htR.split, if_pos (by omega)]
          rw [h1]
          refine ⟨fun h => absurd (h f (by simp) R hR hp) h5, fun _ => fold_none _⟩
    · have hp2 := hp
      rw [prefix_iff, not_or] at hp2
      have h1 : moveStep (joinP s) (joinP t) (some (toF m)) (joinP f.1, f.2) = some (toF m) := by
        rw [moveStep]; simp only [Option.bind_some]
        rw [if_neg (by rw [beq_iff_eq, hf.inj hs]; exact hp2.1), if_pos ((below_empty hf hs).2 hp2.2)]
      have h2 : moveStepN s t m f = m := by rw [moveStepN, if_neg hp]
      rw [h1, h2]
      have := ih hl' hm hv
      refine ⟨fun h => this.1 fun g hg => h g (by simp [hg]), fun h => this.2 fun h3 => h ?_⟩
      intro g hg R' hR' e'
      simp at hg; rcases hg with rfl | hg
      · exact absurd ⟨R', e'.symm⟩ hp
      · exact h3 g hg R' hR' e'

/-- Move: the files of the tree are the document's. -/
theorem move_files {es : Ents} {s t : List Str} {n : Tree} (h : WFE es) (hs : OkN s) (ht : OkN t) (hsub : sub (.dir es) s = some n) (hfree : look (some (.dir es)) t = .free) :
    filesE (putE (removeE es s) t n) = (filesE es).foldl (moveStepN s t) ((filesE es).filter fun f => decide (¬ s <+: f.1)) := by
  have hes : es ≠ [] := by
    intro e; subst e; obtain ⟨h1, _⟩ := hs
    cases s with
    | nil => exact h1 rfl
    | cons x r => simp [sub, findE] at hsub
  have hw : WFT (.dir es) := by unfold WFT; exact ⟨hes, h⟩
  have hn : WFT n := sub_wf s hw hsub
  obtain ⟨l1, l2, l3⟩ := look_files t (.dir es) hw
  obtain ⟨k1, k2, k3⟩ := look_files s (.dir es) hw
  have hsb : look (some (.dir es)) s ≠ .blocked := by
    intro hb
    obtain ⟨P, R, d, hR, e, hd⟩ := k3.1 hb
    rw [e, sub_app] at hsub
    unfold fileAt at hd
    split at hd
    · rename_i hx; rw [hx] at hsub
      cases R with
      | nil => exact hR rfl
      | cons y R => simp [sub] at hsub
    · simp at hd
  have hwr : WFE (removeE es s) := remove_wf h hs.2
  have htb : look (some (.dir (removeE es s))) t ≠ .blocked := by
    by_cases he : removeE es s = []
    · rw [he]; obtain ⟨h1, _⟩ := ht
      cases t with
      | nil => exact absurd rfl h1
      | cons x r => simp [look, findE]
    · intro hb
      have hw2 : WFT (.dir (removeE es s)) := by unfold WFT; exact ⟨he, hwr⟩
      obtain ⟨P, R, d, hR, e, hd⟩ := (look_files t _ hw2).2.2.1 hb
      rw [fileAt_remove hs.1 hsb] at hd
      split at hd
      · simp at hd
      · have := l3.2 ⟨P, R, d, hR, e, hd⟩; rw [hfree] at this; simp at this
  have hwp : WFE (putE (removeE es s) t n) := (put_wf hwr ht.2 hn).1
  have hso := sorted_filesE es h
  refine sorted_unique (sorted_filesE _ hwp) (moveN_sorted (filter_sorted hso _)) ?_
  rintro ⟨p, e⟩
  rw [mem_root hwp, fileAt_put ht.1 htb, moveN_mem hso (filter_sorted hso _), List.mem_filter, mem_root h]
  by_cases hp : t <+: p
  · rw [if_pos hp]
    obtain ⟨R, rfl⟩ := hp
    rw [List.drop_left, fileAt_sub hsub]
    constructor
    · intro h1
      refine .inr ⟨(s ++ R, e), (mem_root h _ _).2 h1, List.prefix_append _ _, ?_⟩
      simp
    · rintro (⟨⟨h1, _⟩, _⟩ | ⟨f, hf, h1, h2⟩)
      · exfalso
        by_cases hR : R = []
        · subst hR
          rw [List.append_nil] at h1
          have := l1.2 ⟨e, h1⟩; rw [hfree] at this; simp at this
        · have := l2.2 ⟨R, e, hR, h1⟩; rw [hfree] at this; simp at this
      · simp at h2
        obtain ⟨R', hR'⟩ := h1
        have hR2 := h2.1
        rw [← hR', List.drop_left] at hR2
        have := (mem_root h f.1 f.2).1 hf
        rw [hR2, hR', h2.2]; exact this
  · rw [if_neg hp, fileAt_remove hs.1 hsb]
    by_cases hps : s <+: p
    · rw [if_pos hps]
      constructor
      · intro h1; simp at h1
      · rintro (⟨⟨_, h1⟩, _⟩ | ⟨f, hf, _, h2⟩)
        · simp [hps] at h1
        · simp at h2; exact absurd ⟨_, h2.1.symm⟩ hp
    · rw [if_neg hps]
      constructor
      · intro h1
        refine .inl ⟨⟨h1, by simp [hps]⟩, ?_⟩
        intro f _ _ e2; simp only at e2; exact hp ⟨_, e2.symm⟩
      · rintro (⟨⟨h1, _⟩, _⟩ | ⟨f, hf, _, h2⟩)
        · exact h1
        · simp at h2; exact absurd ⟨_, h2.1.symm⟩ hp

end Go.Proofs.YtdcbgfhkfmohiaaGreatDoor

/- Plain: Cells: a tree is known by what it spells. -/
namespace Go.Proofs.YtdcbgfhkfmohiaaGreatDoor

theorem names_of_file {es : Ents} (h : WFE es) {x : Str} {t : Tree} (hm : (x, t) ∈ es) : ∃ r d, fileAt (.dir es) (x :: r) = some d := by
  obtain ⟨p, d, hp⟩ := WFT.some t (h.mem _ hm).2
  exact ⟨p, d, by rw [fileAt_dir, h.find hm]; exact hp⟩
theorem file_of_name {es : Ents} {x : Str} {r : List Str} {d : Str} (h : fileAt (.dir es) (x :: r) = some d) : ∃ t, (x, t) ∈ es := by
  rw [fileAt_dir] at h
  cases hf : findE es x with
  | none => rw [hf] at h; simp at h
  | some t => exact ⟨t, findE_mem hf⟩

mutual
theorem tree_ext : ∀ (t u : Tree), WFT t → WFT u → (∀ p, fileAt t p = fileAt u p) → t = u
  | .file d, .file e, _, _, h => by have := h []; simp [fileAt_file] at this; rw [this]
  | .file d, .dir es, _, _, h => by have := h []; simp [fileAt_file, fileAt_root] at this
  | .dir es, .file d, _, _, h => by have := h []; simp [fileAt_file, fileAt_root] at this
  | .dir a, .dir b, h1, h2, h => by
    unfold WFT at h1 h2
    rw [ents_ext a b h1.2 h2.2 h]
theorem ents_ext : ∀ (a b : Ents), WFE a → WFE b → (∀ p, fileAt (.dir a) p = fileAt (.dir b) p) → a = b
  | [], b, _, h2, h => by
    refine (WFE.empty h2 fun p => ?_).symm
    rw [← h p]
    cases p with
    | nil => rfl
    | cons x r => rw [fileAt_dir, findE]
  | (x, t) :: a, [], h1, _, h => by
    exfalso
    obtain ⟨r, d, hd⟩ := names_of_file h1 (x := x) (t := t) (by simp)
    rw [h, fileAt_dir, findE] at hd; simp at hd
  | (x, t) :: a, (y, u) :: b, h1, h2, h => by
    have g1 := h1
    have g2 := h2
    unfold WFE at h1 h2
    have e : x = y := by
      obtain ⟨r, d, hd⟩ := names_of_file g1 (x := x) (t := t) (by simp)
      rw [h] at hd
      obtain ⟨t', ht'⟩ := file_of_name hd
      obtain ⟨r2, d2, hd2⟩ := names_of_file g2 (x := y) (t := u) (by simp)
      rw [← h] at hd2
      obtain ⟨u', hu'⟩ := file_of_name hd2
      simp at ht' hu'
      rcases ht' with ⟨e, _⟩ | ht'
      · exact e
      · rcases hu' with ⟨e, _⟩ | hu'
        · exact e.symm
        · have l1 := h2.2.2.1 _ ht'
          have l2 := h1.2.2.1 _ hu'
          simp only at l1 l2
          rw [bl_asymm l1] at l2; simp at l2
    subst e
    have ht : t = u := tree_ext t u h1.2.1 h2.2.1 fun p => by
      have := h (x :: p)
      rw [fileAt_dir, fileAt_dir, findE, findE, if_pos rfl, if_pos rfl] at this; exact this
    have ha : a = b := ents_ext a b h1.2.2.2 h2.2.2.2 fun p => by
      cases p with
      | nil => rfl
      | cons z r =>
        by_cases hz : x = z
        · subst hz
          rw [fileAt_dir, fileAt_dir, findE_none (fun e he => (bl_ne (h1.2.2.1 e he)).symm), findE_none (fun e he => (bl_ne (h2.2.2.1 e he)).symm)]
        · have := h (z :: r)
          rw [fileAt_dir, fileAt_dir, findE, findE, if_neg hz, if_neg hz] at this
          rw [fileAt_dir, fileAt_dir]; exact this
    rw [ht, ha]
end

theorem files_inj {a b : Ents} (ha : WFE a) (hb : WFE b) (h : filesE a = filesE b) : a = b := by
  refine ents_ext a b ha hb fun p => ?_
  cases hx : fileAt (.dir a) p with
  | some d => rw [← mem_root ha, h, mem_root hb] at hx; rw [hx]
  | none =>
    cases hy : fileAt (.dir b) p with
    | none => rfl
    | some d => rw [← mem_root hb, ← h, mem_root ha, hx] at hy; simp at hy

theorem toF_inj {a b : List NF} (ha : ValidN a) (hb : ValidN b) (h : toF a = toF b) : a = b := by
  induction a generalizing b with
  | nil => cases b with
    | nil => rfl
    | cons y b => simp [toF] at h
  | cons x a ih => cases b with
    | nil => simp [toF] at h
    | cons y b =>
      simp only [toF, List.map_cons, List.cons.injEq, Prod.mk.injEq] at h
      have e := ((ha x (by simp)).inj (hb y (by simp))).1 h.1.1
      have : x = y := Prod.ext e h.1.2
      rw [this, ih (fun z hz => ha z (by simp [hz])) (fun z hz => hb z (by simp [hz])) h.2]

/-- A text that holds a sign for the first time. -/
theorem cut_unique {c : UInt8} {a b x y : Str} (ha : ∀ z ∈ a, z ≠ c) (hb : ∀ z ∈ b, z ≠ c) (h : a ++ c :: x = b ++ c :: y) : a = b ∧ x = y := by
  induction a generalizing b with
  | nil => cases b with
    | nil => simp at h; exact ⟨rfl, h⟩
    | cons z b => simp at h; exact absurd h.1.symm (hb z (by simp))
  | cons w a ih => cases b with
    | nil => simp at h; exact absurd h.1 (ha w (by simp))
    | cons z b =>
      simp at h
      obtain ⟨h1, h2⟩ := ih (fun q hq => ha q (by simp [hq])) (fun q hq => hb q (by simp [hq])) h.2
      exact ⟨by rw [h.1, h1], h2⟩

theorem digit_inj {m n : Nat} (hm : m < 10) (hn : n < 10) (h : (48 : UInt8) + UInt8.ofNat m = 48 + UInt8.ofNat n) : m = n := by
  have h1 := congrArg UInt8.toNat h
  simp [UInt8.toNat_add] at h1
  omega

theorem spell_inj {a b : List Fl} (ha : ∀ f ∈ a, (∀ z ∈ f.1, z ≠ (61 : UInt8)) ∧ f.2.length ≤ 99) (hb : ∀ f ∈ b, (∀ z ∈ f.1, z ≠ (61 : UInt8)) ∧ f.2.length ≤ 99) (h : spellL a = spellL b) : a = b := by
  induction a generalizing b with
  | nil => cases b with
    | nil => rfl
    | cons y b => simp [spellL, spellF] at h
  | cons x a ih => cases b with
    | nil => simp [spellL, spellF] at h
    | cons y b =>
      have hx := ha x (by simp)
      have hy := hb y (by simp)
      have e1 : spellL (x :: a) = x.1 ++ 61 :: (48 + UInt8.ofNat (x.2.length / 10)) :: (48 + UInt8.ofNat (x.2.length % 10)) :: (x.2 ++ 10 :: spellL a) := by simp [spellL, spellF]
      have e2 : spellL (y :: b) = y.1 ++ 61 :: (48 + UInt8.ofNat (y.2.length / 10)) :: (48 + UInt8.ofNat (y.2.length % 10)) :: (y.2 ++ 10 :: spellL b) := by simp [spellL, spellF]
      rw [e1, e2] at h
      obtain ⟨h1, h2⟩ := cut_unique hx.1 hy.1 h
      simp only [List.cons.injEq] at h2
      have d1 := digit_inj (by omega) (by omega) h2.1
      have d2 := digit_inj (by omega) (by omega) h2.2.1
      have hl : x.2.length = y.2.length := by omega
      obtain ⟨h3, h4⟩ := List.append_inj h2.2.2 hl
      simp only [List.cons.injEq, true_and] at h4
      rw [Prod.ext h1 h3, ih (fun f hf => ha f (by simp [hf])) (fun f hf => hb f (by simp [hf])) h4]

theorem join_61 {q : List Str} (h : OkN q) : ∀ z ∈ joinP q, z ≠ (61 : UInt8) := by
  have hn : ∀ x : Str, isNameL x false = true → ∀ z ∈ x, z ≠ (61 : UInt8) := by
    intro x hx z hz e
    unfold isNameL at hx
    simp only [Bool.and_eq_true, List.all_eq_true] at hx
    have := hx.2 z hz
    subst e; simp [okByte] at this
  obtain ⟨_, h⟩ := h
  induction q with
  | nil => simp [joinP]
  | cons x r ih =>
    cases r with
    | nil => simp only [joinP]; exact hn x (h x (by simp))
    | cons y r =>
      rw [joinP_cons (by simp)]
      intro z hz
      simp only [List.mem_append, List.mem_cons] at hz
      rcases hz with hz | hz | hz
      · exact hn x (h x (by simp)) z hz
      · subst hz; decide
      · exact ih (by simp) (fun w hw => h w (by simp [hw])) z hz

theorem spell_files_inj {a b : Ents} (ha : WFE a) (hb : WFE b) (h : spellL (toF (filesE a)) = spellL (toF (filesE b))) : a = b := by
  have va := valid_files ha
  have vb := valid_files hb
  refine files_inj ha hb (toF_inj va.1 vb.1 (spell_inj ?_ ?_ h))
  · intro f hf; obtain ⟨g, hg, rfl⟩ := List.mem_map.1 hf
    exact ⟨join_61 (va.1 g hg), by have := va.2 g hg; simp only; omega⟩
  · intro f hf; obtain ⟨g, hg, rfl⟩ := List.mem_map.1 hf
    exact ⟨join_61 (vb.1 g hg), by have := vb.2 g hg; simp only; omega⟩

/- Sets as lists. -/
def addAll (t xs : List Str) : List Str := xs.foldl addL t
theorem addL_mem (t : List Str) (s x : Str) : x ∈ addL t s ↔ x ∈ t ∨ x = s := by
  unfold addL; split
  · rename_i h; constructor
    · exact .inl
    · rintro (h2 | rfl)
      · exact h2
      · exact h
  · simp
theorem addL_nodup {t : List Str} (h : t.Nodup) (s : Str) : (addL t s).Nodup := by
  unfold addL; split
  · exact h
  · rename_i hs
    rw [List.nodup_append]
    refine ⟨h, by simp, ?_⟩
    intro a ha b hb e; simp at hb; subst hb; subst e; exact hs ha
theorem addAll_mem (xs t : List Str) (x : Str) : x ∈ addAll t xs ↔ x ∈ t ∨ x ∈ xs := by
  induction xs generalizing t with
  | nil => simp [addAll]
  | cons y xs ih =>
    have : addAll t (y :: xs) = addAll (addL t y) xs := rfl
    rw [this, ih, addL_mem]; simp [or_assoc]
theorem addAll_nodup {xs t : List Str} (h : t.Nodup) : (addAll t xs).Nodup := by
  induction xs generalizing t with
  | nil => exact h
  | cons y xs ih => exact ih (addL_nodup h y)
theorem addAll_app (t xs ys : List Str) : addAll t (xs ++ ys) = addAll (addAll t xs) ys := by unfold addAll; rw [List.foldl_append]

theorem nodup_len {a b : List Str} (ha : a.Nodup) (h : ∀ x ∈ a, x ∈ b) : a.length ≤ b.length := by
  induction a generalizing b with
  | nil => simp
  | cons x a ih =>
    rw [List.nodup_cons] at ha
    have hx := h x (by simp)
    have := ih (b := b.erase x) ha.2 fun y hy => by
      rw [List.mem_erase_of_ne]
      · exact h y (by simp [hy])
      · intro e; subst e; exact ha.1 hy
    rw [List.length_erase_of_mem hx] at this
    have hp : 0 < b.length := List.length_pos_of_mem hx
    simp; omega
theorem nodup_same {a b : List Str} (ha : a.Nodup) (hb : b.Nodup) (h : ∀ x, x ∈ a ↔ x ∈ b) : a.length = b.length :=
  Nat.le_antisymm (nodup_len ha fun x hx => (h x).1 hx) (nodup_len hb fun x hx => (h x).2 hx)
theorem nodup_map {α : Type} {f : α → Str} {l : List α} (h : l.Nodup) (hf : ∀ x ∈ l, ∀ y ∈ l, f x = f y → x = y) : (l.map f).Nodup := by
  induction l with
  | nil => simp
  | cons x l ih =>
    rw [List.nodup_cons] at h
    rw [List.map_cons, List.nodup_cons]
    refine ⟨?_, ih h.2 fun a ha b hb => hf a (by simp [ha]) b (by simp [hb])⟩
    intro hm; obtain ⟨y, hy, e⟩ := List.mem_map.1 hm
    have := hf y (by simp [hy]) x (by simp) e
    subst this; exact h.1 hy

/- What Cells puts together. -/
def dirTexts (l : List Fl) (p : Str) : List Str := (List.range p.length).flatMap fun n => if p[n]? = some 47 then [spellL (inL l (p.take n))] else []
def treeTexts (l : List Fl) : List Str := spellL l :: l.flatMap fun f => dirTexts l f.1

theorem fold_dirs (l : List Fl) (p : Str) (t : List Str) (ns : List Nat) : ns.foldl (dirStep l p) t = addAll t (ns.flatMap fun n => if p[n]? = some 47 then [spellL (inL l (p.take n))] else []) := by
  induction ns generalizing t with
  | nil => rfl
  | cons n ns ih =>
    rw [List.foldl_cons, ih, List.flatMap_cons, addAll_app]
    congr 1
    unfold dirStep; split <;> rfl
theorem fold_files (l ls : List Fl) (st : List Str × List Str) : ls.foldl (fileStep l) st = (addAll st.1 (ls.flatMap fun f => dirTexts l f.1), addAll st.2 (ls.map (·.2))) := by
  induction ls generalizing st with
  | nil => rfl
  | cons f ls ih =>
    rw [List.foldl_cons, ih, List.flatMap_cons, List.map_cons, addAll_app]
    unfold fileStep
    rw [fold_dirs]; rfl
theorem cells_texts (all : List (List Fl)) : cellsSt all = (addAll [] (all.flatMap treeTexts), addAll [] (all.flatMap fun l => l.map (·.2))) := by
  have key : ∀ (all : List (List Fl)) (st : List Str × List Str), all.foldl snapStep st = (addAll st.1 (all.flatMap treeTexts), addAll st.2 (all.flatMap fun l => l.map (·.2))) := by
    intro all
    induction all with
    | nil => intro st; rfl
    | cons l all ih =>
      intro st
      rw [List.foldl_cons, ih, List.flatMap_cons, List.flatMap_cons, addAll_app, addAll_app]
      unfold snapStep
      rw [fold_files]; rfl
  exact key all ([], [])

end Go.Proofs.YtdcbgfhkfmohiaaGreatDoor
