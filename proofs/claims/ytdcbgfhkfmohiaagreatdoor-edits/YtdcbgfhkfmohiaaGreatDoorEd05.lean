/- Plain: trees of files, and what the edits do to them. -/
import Derived.Test.YtdcbgfhkfmohiaaGreatDoorEd04
namespace Go.Proofs.YtdcbgfhkfmohiaaGreatDoor

/-- A tree: a file with its data, or a directory with names that lead to trees. -/
inductive Tree where
  | file (d : Str) : Tree
  | dir (es : List (Str × Tree)) : Tree

abbrev Ents := List (Str × Tree)
/-- Files by the names of their paths. -/
abbrev NF := List Str × Str

mutual
def filesT : Tree → List NF
  | .file d => [([], d)]
  | .dir es => filesE es
def filesE : Ents → List NF
  | [] => []
  | (x, t) :: es => (filesT t).map (fun f => (x :: f.1, f.2)) ++ filesE es
end

def findE : Ents → Str → Option Tree
  | [], _ => none
  | (y, t) :: es, x => if y = x then some t else findE es x

def sub : Tree → List Str → Option Tree
  | t, [] => some t
  | .file _, _ :: _ => none
  | .dir es, x :: r => match findE es x with
    | none => none
    | some t => sub t r

def fileAt (t : Tree) (p : List Str) : Option Str := match sub t p with
  | some (.file d) => some d
  | _ => none

mutual
def WFT : Tree → Prop
  | .file d => d.length ≤ 30
  | .dir es => es ≠ [] ∧ WFE es
def WFE : Ents → Prop
  | [] => True
  | (x, t) :: es => isNameL x false = true ∧ WFT t ∧ (∀ y ∈ es, Op.bytesLess x y.1 = true) ∧ WFE es
end

theorem findE_none {es : Ents} {x : Str} (h : ∀ y ∈ es, y.1 ≠ x) : findE es x = none := by
  induction es with
  | nil => rfl
  | cons e es ih =>
    obtain ⟨y, t⟩ := e
    rw [findE, if_neg (h (y, t) (by simp))]; exact ih fun z hz => h z (by simp [hz])
theorem findE_mem {es : Ents} {x : Str} {t : Tree} (h : findE es x = some t) : (x, t) ∈ es := by
  induction es with
  | nil => simp [findE] at h
  | cons e es ih =>
    obtain ⟨y, u⟩ := e
    rw [findE] at h
    split at h
    · rename_i e; subst e; simp at h; subst h; simp
    · simp [ih h]
theorem bl_ne {x y : Str} (h : Op.bytesLess x y = true) : x ≠ y := by intro e; subst e; rw [bl_irrefl] at h; simp at h

theorem WFE.mem {es : Ents} (h : WFE es) : ∀ e ∈ es, isNameL e.1 false = true ∧ WFT e.2 := by
  induction es with
  | nil => simp
  | cons e es ih =>
    obtain ⟨y, u⟩ := e
    unfold WFE at h
    intro z hz; simp at hz; rcases hz with rfl | hz
    · exact ⟨h.1, h.2.1⟩
    · exact ih h.2.2.2 z hz
theorem WFE.find {es : Ents} (h : WFE es) {x : Str} {t : Tree} (hm : (x, t) ∈ es) : findE es x = some t := by
  induction es with
  | nil => simp at hm
  | cons e es ih =>
    obtain ⟨y, u⟩ := e
    unfold WFE at h
    simp at hm
    rcases hm with ⟨rfl, rfl⟩ | hm
    · rw [findE, if_pos rfl]
    · rw [findE, if_neg (bl_ne (h.2.2.1 _ hm))]; exact ih h.2.2.2 hm

mutual
theorem mem_filesT : ∀ (t : Tree), WFT t → ∀ p d, (p, d) ∈ filesT t ↔ sub t p = some (.file d)
  | .file e, _, p, d => by
    unfold filesT
    cases p with
    | nil => simp [sub]; exact eq_comm
    | cons x r => simp [sub]
  | .dir es, h, p, d => by
    unfold filesT
    unfold WFT at h
    rw [mem_filesE es h.2 p d]
    cases p with
    | nil => simp [sub]
    | cons x r =>
      rw [sub]
      constructor
      · rintro ⟨x', r', t, e, h2, h3⟩; simp at e; obtain ⟨rfl, rfl⟩ := e; rw [h2]; exact h3
      · intro h1
        cases hf : findE es x with
        | none => rw [hf] at h1; simp at h1
        | some t => rw [hf] at h1; exact ⟨x, r, t, rfl, hf, h1⟩
theorem mem_filesE : ∀ (es : Ents), WFE es → ∀ p d, (p, d) ∈ filesE es ↔ ∃ x r t, p = x :: r ∧ findE es x = some t ∧ sub t r = some (.file d)
  | [], _, p, d => by simp [filesE, findE]
  | (y, u) :: es, h, p, d => by
    unfold WFE at h
    unfold filesE
    rw [List.mem_append, mem_filesE es h.2.2.2 p d, List.mem_map]
    constructor
    · rintro (⟨⟨q, d'⟩, hq, he⟩ | ⟨x, r, t, rfl, h2, h3⟩)
      · simp at he; obtain ⟨rfl, rfl⟩ := he
        exact ⟨y, q, u, rfl, by rw [findE, if_pos rfl], (mem_filesT u h.2.1 q d').1 hq⟩
      · have hm := findE_mem h2
        exact ⟨x, r, t, rfl, by rw [findE, if_neg (bl_ne (h.2.2.1 _ hm)), h2], h3⟩
    · rintro ⟨x, r, t, rfl, h2, h3⟩
      rw [findE] at h2
      split at h2
      · rename_i e; subst e; simp at h2; subst h2
        exact .inl ⟨(r, d), (mem_filesT u h.2.1 r d).2 h3, rfl⟩
      · exact .inr ⟨x, r, t, rfl, h2, h3⟩
end

def SortedN (l : List NF) : Prop := l.Pairwise fun a b => lessS a.1 b.1 = true

mutual
theorem sorted_filesT : ∀ (t : Tree), WFT t → SortedN (filesT t)
  | .file e, _ => by unfold filesT SortedN; simp
  | .dir es, h => by unfold filesT; unfold WFT at h; exact sorted_filesE es h.2
theorem sorted_filesE : ∀ (es : Ents), WFE es → SortedN (filesE es)
  | [], _ => by unfold filesE SortedN; simp
  | (y, u) :: es, h => by
    unfold WFE at h
    unfold filesE SortedN
    rw [List.pairwise_append]
    refine ⟨?_, sorted_filesE es h.2.2.2, ?_⟩
    · rw [List.pairwise_map]
      refine (sorted_filesT u h.2.1).imp ?_
      intro a b hab; simp only [lessS, if_true]; exact hab
    · intro a ha b hb
      rw [List.mem_map] at ha
      obtain ⟨f, _, rfl⟩ := ha
      obtain ⟨p, d⟩ := b
      obtain ⟨x, r, t, rfl, h2, _⟩ := (mem_filesE es h.2.2.2 p d).1 hb
      have hl := h.2.2.1 _ (findE_mem h2)
      simp only [lessS]; rw [if_neg (bl_ne hl)]; exact hl
end

/-- Two lists in order with the same files are one. -/
theorem sorted_unique {a b : List NF} (ha : SortedN a) (hb : SortedN b) (h : ∀ x, x ∈ a ↔ x ∈ b) : a = b := by
  induction a generalizing b with
  | nil => cases b with
    | nil => rfl
    | cons y b => have := (h y).2 (by simp); simp at this
  | cons x a ih => cases b with
    | nil => have := (h x).1 (by simp); simp at this
    | cons y b =>
      unfold SortedN at ha hb
      rw [List.pairwise_cons] at ha hb
      have e : x = y := by
        have h1 := (h x).1 (by simp)
        have h2 := (h y).2 (by simp)
        simp at h1 h2
        rcases h1 with h1 | h1
        · exact h1
        · rcases h2 with h2 | h2
          · exact h2.symm
          · have h3 := ls_asymm (ha.1 y h2); rw [hb.1 x h1] at h3; simp at h3
      subst e
      congr 1
      refine ih ha.2 hb.2 fun z => ?_
      have hz := h z
      simp at hz
      constructor
      · intro hm
        rcases hz.1 (.inr hm) with e | hm2
        · subst e; have := ha.1 _ hm; rw [ls_irrefl] at this; simp at this
        · exact hm2
      · intro hm
        rcases hz.2 (.inr hm) with e | hm2
        · subst e; have := hb.1 _ hm; rw [ls_irrefl] at this; simp at this
        · exact hm2

theorem fileAt_dir (es : Ents) (x : Str) (r : List Str) : fileAt (.dir es) (x :: r) = match findE es x with
    | none => none
    | some t => fileAt t r := by
  unfold fileAt; rw [sub]
  cases findE es x <;> rfl
theorem fileAt_root (es : Ents) : fileAt (.dir es) [] = none := rfl
theorem fileAt_file (d : Str) (p : List Str) : fileAt (.file d) p = if p = [] then some d else none := by
  cases p with
  | nil => rfl
  | cons x r => rfl
theorem mem_root {es : Ents} (h : WFE es) (p : List Str) (d : Str) : (p, d) ∈ filesE es ↔ fileAt (.dir es) p = some d := by
  rw [mem_filesE es h]
  cases p with
  | nil => simp [fileAt_root]
  | cons x r =>
    rw [fileAt_dir]
    constructor
    · rintro ⟨x', r', t, e, h2, h3⟩; simp at e; obtain ⟨rfl, rfl⟩ := e; rw [h2]; simp only [fileAt]; rw [h3]
    · intro h1
      cases hf : findE es x with
      | none => rw [hf] at h1; simp at h1
      | some t =>
        rw [hf] at h1; simp only [fileAt] at h1
        refine ⟨x, r, t, rfl, hf, ?_⟩
        split at h1
        · rename_i hs; simp at h1; subst h1; exact hs
        · simp at h1

def withE : Ents → Str → Tree → Ents
  | [], x, t => [(x, t)]
  | (y, u) :: es, x, t => if y = x then (x, t) :: es else if Op.bytesLess y x then (y, u) :: withE es x t else (x, t) :: (y, u) :: es
def withoutE (es : Ents) (x : Str) : Ents := es.filter fun e => !(e.1 == x)

theorem find_with (es : Ents) (x : Str) (t : Tree) (y : Str) : findE (withE es x t) y = if x = y then some t else findE es y := by
  induction es with
  | nil => simp only [withE, findE]
  | cons e es ih =>
    obtain ⟨z, u⟩ := e
    rw [withE]
    split
    · rename_i h; subst h
      rw [findE, findE]
      split <;> simp_all
    · split
      · rw [findE, ih, findE]
        by_cases h1 : z = y
        · rw [if_pos h1, if_pos h1]
          by_cases h2 : x = y
          · rename_i h _; exact absurd (h1.trans h2.symm) h
          · rw [if_neg h2]
        · rw [if_neg h1, if_neg h1]
      · rw [findE]
theorem find_without (es : Ents) (x y : Str) : findE (withoutE es x) y = if x = y then none else findE es y := by
  induction es with
  | nil => simp [withoutE, findE]
  | cons e es ih =>
    obtain ⟨z, u⟩ := e
    unfold withoutE at *
    rw [List.filter_cons]
    by_cases h : z = x
    · subst h; simp only [beq_self_eq_true, Bool.not_true, Bool.false_eq_true, if_false]
      rw [ih, findE]
      by_cases h1 : z = y
      · rw [if_pos h1, if_pos h1]
      · rw [if_neg h1, if_neg h1, if_neg h1]
    · have : (!((z, u).1 == x)) = true := by simp [h]
      rw [if_pos this, findE, findE, ih]
      by_cases h1 : z = y
      · rw [if_pos h1, if_pos h1, if_neg (fun e => h (h1.trans e.symm))]
      · rw [if_neg h1, if_neg h1]

theorem with_mem {es : Ents} {x : Str} {t : Tree} : ∀ e ∈ withE es x t, e = (x, t) ∨ e ∈ es := by
  induction es with
  | nil => intro e he; simp [withE] at he; exact .inl he
  | cons f es ih =>
    obtain ⟨z, u⟩ := f
    intro e he
    rw [withE] at he
    split at he
    · simp at he; rcases he with he | he
      · exact .inl he
      · exact .inr (by simp [he])
    · split at he
      · simp at he; rcases he with he | he
        · exact .inr (by simp [he])
        · rcases ih e he with h | h
          · exact .inl h
          · exact .inr (by simp [h])
      · simp at he; rcases he with he | he | he
        · exact .inl he
        · exact .inr (by simp [he])
        · exact .inr (by simp [he])

theorem with_wf {es : Ents} {x : Str} {t : Tree} (h : WFE es) (hx : isNameL x false = true) (ht : WFT t) : WFE (withE es x t) := by
  induction es with
  | nil => rw [withE]; unfold WFE; exact ⟨hx, ht, by simp, by unfold WFE; trivial⟩
  | cons f es ih =>
    obtain ⟨z, u⟩ := f
    unfold WFE at h
    rw [withE]
    split
    · rename_i e; subst e; unfold WFE; exact ⟨hx, ht, h.2.2.1, h.2.2.2⟩
    · rename_i hne
      split
      · rename_i hl
        unfold WFE
        refine ⟨h.1, h.2.1, ?_, ih h.2.2.2⟩
        intro e he
        rcases with_mem e he with rfl | he
        · exact hl
        · exact h.2.2.1 e he
      · rename_i hl
        have hl2 : Op.bytesLess x z = true := bl_total (by simpa using hl) hne
        unfold WFE
        refine ⟨hx, ht, ?_, ?_⟩
        · intro e he; simp at he; rcases he with rfl | he
          · exact hl2
          · exact bl_trans hl2 (h.2.2.1 e he)
        · unfold WFE; exact h
theorem filter_wf {es : Ents} (h : WFE es) (q : Str × Tree → Bool) : WFE (es.filter q) := by
  induction es with
  | nil => exact h
  | cons f es ih =>
    obtain ⟨z, u⟩ := f
    unfold WFE at h
    rw [List.filter_cons]
    split
    · unfold WFE
      exact ⟨h.1, h.2.1, fun e he => h.2.2.1 e (List.mem_filter.1 he).1, ih h.2.2.2⟩
    · exact ih h.2.2.2
theorem without_wf {es : Ents} (h : WFE es) (x : Str) : WFE (withoutE es x) := filter_wf h _
theorem with_ne {es : Ents} {x : Str} {t : Tree} : withE es x t ≠ [] := by
  cases es with
  | nil => simp [withE]
  | cons f es => obtain ⟨z, u⟩ := f; rw [withE]; split
                 · simp
                 · split <;> simp

end Go.Proofs.YtdcbgfhkfmohiaaGreatDoor

/- Plain: put and remove in trees. -/
namespace Go.Proofs.YtdcbgfhkfmohiaaGreatDoor

def belowE (es : Ents) (x : Str) : Ents := match findE es x with
  | some (.dir es') => es'
  | _ => []

def putE : Ents → List Str → Tree → Ents
  | es, [], _ => es
  | es, [x], n => withE es x n
  | es, x :: y :: r, n => withE es x (.dir (putE (belowE es x) (y :: r) n))

def removeE : Ents → List Str → Ents
  | es, [] => es
  | es, [x] => withoutE es x
  | es, x :: y :: r => if removeE (belowE es x) (y :: r) = [] then withoutE es x else withE es x (.dir (removeE (belowE es x) (y :: r)))

inductive Place where
  | free | blocked | atFile | atDir
  deriving DecidableEq

/-- What stands where the names lead to. -/
def look : Option Tree → List Str → Place
  | none, _ => .free
  | some (.file _), [] => .atFile
  | some (.file _), _ :: _ => .blocked
  | some (.dir _), [] => .atDir
  | some (.dir es), x :: r => look (findE es x) r

theorem belowE_wf {es : Ents} (h : WFE es) (x : Str) : WFE (belowE es x) := by
  unfold belowE
  split
  · rename_i es' he
    have := (h.mem _ (findE_mem he)).2
    unfold WFT at this; exact this.2
  · unfold WFE; trivial

theorem fileAt_below {es : Ents} {x : Str} (h : ∀ d, findE es x ≠ some (.file d)) (r : List Str) (hr : r ≠ []) : fileAt (.dir (belowE es x)) r = fileAt (.dir es) (x :: r) := by
  rw [fileAt_dir]
  unfold belowE
  cases hf : findE es x with
  | none =>
    cases r with
    | nil => exact absurd rfl hr
    | cons y r => simp [fileAt_dir, findE]
  | some t => cases t with
    | file d => exact absurd hf (h d)
    | dir es' => rfl

/-- No file stands on the way (at the end there may be one). -/
theorem look_step {es : Ents} {x y : Str} {r : List Str} (h : look (some (.dir es)) (x :: y :: r) ≠ .blocked) : (∀ d, findE es x ≠ some (.file d)) ∧ look (some (.dir (belowE es x))) (y :: r) ≠ .blocked := by
  rw [look] at h
  unfold belowE
  cases hf : findE es x with
  | none => exact ⟨by simp, by simp [look, findE]⟩
  | some t => cases t with
    | file d => rw [hf, look] at h; exact absurd rfl h
    | dir es' => rw [hf] at h; exact ⟨by simp, h⟩

theorem prefix_cons {x y : Str} {q p : List Str} : x :: q <+: y :: p ↔ x = y ∧ q <+: p := by
  constructor
  · rintro ⟨t, ht⟩; simp at ht; exact ⟨ht.1, ⟨t, ht.2⟩⟩
  · rintro ⟨rfl, t, ht⟩; exact ⟨t, by simp [ht]⟩

theorem fileAt_put {q : List Str} : ∀ {es : Ents} {n : Tree}, q ≠ [] → look (some (.dir es)) q ≠ .blocked → ∀ p, fileAt (.dir (putE es q n)) p = if q <+: p then fileAt n (p.drop q.length) else fileAt (.dir es) p := by
  induction q with
  | nil => intro es n h; exact absurd rfl h
  | cons x r ih =>
    intro es n _ hb p
    cases r with
    | nil =>
      rw [putE]
      cases p with
      | nil => rw [if_neg (by simp)]; rfl
      | cons y p =>
        rw [fileAt_dir, find_with, fileAt_dir]
        by_cases e : x = y
        · subst e; rw [if_pos rfl, if_pos (by rw [prefix_cons]; simp)]; rfl
        · rw [if_neg e, if_neg (by rw [prefix_cons]; exact fun h => e h.1)]
    | cons y r =>
      obtain ⟨h1, h2⟩ := look_step hb
      rw [putE]
      cases p with
      | nil => rw [if_neg (by simp)]; rfl
      | cons z p =>
        rw [fileAt_dir, find_with]
        by_cases e : x = z
        · subst e
          rw [if_pos rfl]
          simp only
          rw [ih (by simp) h2 p]
          by_cases hp : y :: r <+: p
          · rw [if_pos hp, if_pos (by rw [prefix_cons]; exact ⟨rfl, hp⟩)]; rfl
          · rw [if_neg hp, if_neg (by rw [prefix_cons]; exact fun h => hp h.2)]
            by_cases hpn : p = []
            · subst hpn; rw [fileAt_root, fileAt_dir]
              cases hf : findE es x with
              | none => rfl
              | some t => cases t with
                | file d => exact absurd hf (h1 d)
                | dir es' => rfl
            · exact fileAt_below h1 p hpn
        · rw [if_neg e, if_neg (by rw [prefix_cons]; exact fun h => e h.1), fileAt_dir]

theorem put_wf {q : List Str} : ∀ {es : Ents} {n : Tree}, WFE es → (∀ x ∈ q, isNameL x false = true) → WFT n → WFE (putE es q n) ∧ (q ≠ [] → putE es q n ≠ []) := by
  induction q with
  | nil => intro es n h _ _; exact ⟨h, fun h => absurd rfl h⟩
  | cons x r ih =>
    intro es n h hq hn
    cases r with
    | nil => rw [putE]; exact ⟨with_wf h (hq x (by simp)) hn, fun _ => with_ne⟩
    | cons y r =>
      rw [putE]
      have := ih (es := belowE es x) (belowE_wf h x) (fun z hz => hq z (by simp [hz])) hn
      exact ⟨with_wf h (hq x (by simp)) (by unfold WFT; exact ⟨this.2 (by simp), this.1⟩), fun _ => with_ne⟩

/-- A tree in order has a file, if it is no empty directory. -/
theorem WFT.some : ∀ (t : Tree), WFT t → ∃ p d, fileAt t p = some d
  | .file d, _ => ⟨[], d, rfl⟩
  | .dir [], h => by unfold WFT at h; exact absurd rfl h.1
  | .dir ((x, t) :: es), h => by
    unfold WFT WFE at h
    obtain ⟨p, d, hp⟩ := WFT.some t h.2.2.1
    exact ⟨x :: p, d, by rw [fileAt_dir, findE, if_pos rfl]; exact hp⟩

theorem WFE.empty {es : Ents} (h : WFE es) (h0 : ∀ p, fileAt (.dir es) p = none) : es = [] := by
  cases es with
  | nil => rfl
  | cons f es =>
    obtain ⟨x, t⟩ := f
    have ht : WFT t := (h.mem (x, t) (by simp)).2
    obtain ⟨p, d, hp⟩ := WFT.some t ht
    have := h0 (x :: p)
    rw [fileAt_dir, findE, if_pos rfl] at this
    simp only at this; rw [hp] at this; simp at this

theorem remove_wf {q : List Str} : ∀ {es : Ents}, WFE es → (∀ x ∈ q, isNameL x false = true) → WFE (removeE es q) := by
  induction q with
  | nil => intro es h _; exact h
  | cons x r ih =>
    intro es h hq
    cases r with
    | nil => rw [removeE]; exact without_wf h x
    | cons y r =>
      rw [removeE]
      have := ih (es := belowE es x) (belowE_wf h x) (fun z hz => hq z (by simp [hz]))
      split
      · exact without_wf h x
      · rename_i hne; exact with_wf h (hq x (by simp)) (by unfold WFT; exact ⟨hne, this⟩)

theorem fileAt_remove {q : List Str} : ∀ {es : Ents}, q ≠ [] → look (some (.dir es)) q ≠ .blocked → ∀ p, fileAt (.dir (removeE es q)) p = if q <+: p then none else fileAt (.dir es) p := by
  induction q with
  | nil => intro es h; exact absurd rfl h
  | cons x r ih =>
    intro es _ hb p
    cases r with
    | nil =>
      rw [removeE]
      cases p with
      | nil => rw [if_neg (by simp)]; rfl
      | cons y p =>
        rw [fileAt_dir, find_without, fileAt_dir]
        by_cases e : x = y
        · subst e; rw [if_pos rfl, if_pos (by rw [prefix_cons]; simp)]
        · rw [if_neg e, if_neg (by rw [prefix_cons]; exact fun h => e h.1)]
    | cons y r =>
      obtain ⟨h1, h2⟩ := look_step hb
      have ih := ih (by simp) h2
      rw [removeE]
      cases p with
      | nil =>
        have hn : ¬ (x :: y :: r <+: ([] : List Str)) := by simp
        rw [if_neg hn]; split <;> rfl
      | cons z p =>
        have key : ∀ es', (∀ p, fileAt (.dir es') p = if y :: r <+: p then none else fileAt (.dir (belowE es x)) p) → x = z → fileAt (.dir es') p = if x :: y :: r <+: z :: p then none else fileAt (.dir es) (z :: p) := by
          intro es' hes e
          subst e
          rw [hes p]
          by_cases hp : y :: r <+: p
          · rw [if_pos hp, if_pos (by rw [prefix_cons]; exact ⟨rfl, hp⟩)]
          · rw [if_neg hp, if_neg (by rw [prefix_cons]; exact fun h => hp h.2)]
            by_cases hpn : p = []
            · subst hpn; rw [fileAt_root, fileAt_dir]
              cases hf : findE es x with
              | none => rfl
              | some t => cases t with
                | file d => exact absurd hf (h1 d)
                | dir es' => rfl
            · exact fileAt_below h1 p hpn
        split
        · rename_i he
          rw [fileAt_dir, find_without]
          by_cases e : x = z
          · rw [if_pos e]
            rw [he] at ih
            have := key [] ih e
            rw [← this]
            cases p with
            | nil => rfl
            | cons a p => rw [fileAt_dir]; rfl
          · rw [if_neg e, if_neg (by rw [prefix_cons]; exact fun h => e h.1), fileAt_dir]
        · rw [fileAt_dir, find_with]
          by_cases e : x = z
          · rw [if_pos e]; exact key _ ih e
          · rw [if_neg e, if_neg (by rw [prefix_cons]; exact fun h => e h.1), fileAt_dir]

/-- What look tells, by files. -/
theorem look_files : ∀ (q : List Str) (t : Tree), WFT t →
    (look (some t) q = .atFile ↔ ∃ d, fileAt t q = some d) ∧ (look (some t) q = .atDir ↔ ∃ R d, R ≠ [] ∧ fileAt t (q ++ R) = some d) ∧ (look (some t) q = .blocked ↔ ∃ P R d, R ≠ [] ∧ q = P ++ R ∧ fileAt t P = some d) := by
  intro q
  induction q with
  | nil =>
    intro t ht
    cases t with
    | file d =>
      refine ⟨by simp [look, fileAt_file], ?_, ?_⟩
      · simp [look]; intro R hR d'; rw [fileAt_file, if_neg hR]; simp
      · simp [look]; rintro P R hR h1 h2; exact absurd h2 hR
    | dir es =>
      refine ⟨by simp [look, fileAt_root], ?_, ?_⟩
      · simp only [look, true_iff, List.nil_append]
        obtain ⟨p, d, hp⟩ := WFT.some _ ht
        refine ⟨p, d, ?_, hp⟩
        intro e; subst e; rw [fileAt_root] at hp; simp at hp
      · simp [look]; rintro P R hR h1 h2; exact absurd h2 hR
  | cons x r ih =>
    intro t ht
    cases t with
    | file d =>
      refine ⟨by simp [look, fileAt_file], ?_, ?_⟩
      · simp [look, fileAt_file]
      · simp only [look, true_iff]
        exact ⟨[], x :: r, d, by simp, rfl, rfl⟩
    | dir es =>
      unfold WFT at ht
      rw [look]
      cases hf : findE es x with
      | none =>
        refine ⟨?_, ?_, ?_⟩
        · simp [look, fileAt_dir, hf]
        · simp [look, fileAt_dir, hf]
        · simp only [look, reduceCtorEq, false_iff, not_exists, not_and]
          intro P R d hR he
          cases P with
          | nil => rw [fileAt_root]; simp
          | cons y P => simp at he; rw [← he.1, fileAt_dir, hf]; simp
      | some u =>
        have hu : WFT u := (ht.2.mem _ (findE_mem hf)).2
        obtain ⟨i1, i2, i3⟩ := ih u hu
        refine ⟨?_, ?_, ?_⟩
        · rw [i1, fileAt_dir, hf]
        · rw [i2]
          simp only [List.cons_append, fileAt_dir, hf]
        · rw [i3]
          constructor
          · rintro ⟨P, R, d, hR, he, hd⟩
            exact ⟨x :: P, R, d, hR, by rw [he]; rfl, by rw [fileAt_dir, hf]; exact hd⟩
          · rintro ⟨P, R, d, hR, he, hd⟩
            cases P with
            | nil => rw [fileAt_root] at hd; simp at hd
            | cons y P =>
              simp at he
              rw [← he.1, fileAt_dir, hf] at hd
              exact ⟨P, R, d, hR, he.2, hd⟩

end Go.Proofs.YtdcbgfhkfmohiaaGreatDoor

/- Plain: the document's answer on files is what the edits do to trees: Put, Delete. -/
namespace Go.Proofs.YtdcbgfhkfmohiaaGreatDoor

def toF (l : List NF) : List Fl := l.map fun f => (joinP f.1, f.2)
def OkN (q : List Str) : Prop := q ≠ [] ∧ ∀ x ∈ q, isNameL x false = true
def ValidN (l : List NF) : Prop := ∀ f ∈ l, OkN f.1

theorem name_free {x : Str} (h : isNameL x false = true) : Free x ∧ x ≠ [] := by
  unfold isNameL at h
  simp only [Bool.and_eq_true, decide_eq_true_eq, List.all_eq_true] at h
  refine ⟨?_, ?_⟩
  · intro b hb e
    have := h.2 b hb
    subst e
    simp [okByte] at this
  · intro e; subst e; simp at h

theorem OkN.split {q : List Str} (h : OkN q) : splitL 47 (joinP q) = q := split_join h.1 fun x hx => (name_free (h.2 x hx)).1
theorem OkN.inj {q p : List Str} (h : OkN q) (h' : OkN p) : joinP q = joinP p ↔ q = p := by
  constructor
  · intro e; rw [← h.split, ← h'.split, e]
  · intro e; rw [e]
theorem OkN.root {q : List Str} (h : OkN q) : joinP q ≠ [47] := by
  intro e
  have h1 := h.split
  rw [e] at h1
  have h2 : splitL 47 [47] = [[], []] := by simp [splitL]
  rw [h2] at h1
  have := (name_free (h.2 [] (by rw [← h1]; simp))).2
  exact this rfl
theorem OkN.app {q R : List Str} (h : OkN q) (h' : ∀ x ∈ R, isNameL x false = true) : OkN (q ++ R) :=
  ⟨by simp [h.1], fun x hx => by rw [List.mem_append] at hx; rcases hx with hx | hx; exact h.2 x hx; exact h' x hx⟩
theorem OkN.tail {q R : List Str} (h : OkN (q ++ R)) (hR : R ≠ []) : OkN R := ⟨hR, fun x hx => h.2 x (by simp [hx])⟩

/-- below, by names. -/
theorem below_names {P q : List Str} (hP : OkN P) (hq : OkN q) : (belowL (joinP P) (joinP q) = [] ∧ ¬ ∃ R, R ≠ [] ∧ P = q ++ R) ∨ (∃ R, R ≠ [] ∧ P = q ++ R ∧ belowL (joinP P) (joinP q) = joinP R) := by
  rcases belowL_names (p := joinP P) hq.root (by rw [hP.split]; exact fun x hx => (name_free (hP.2 x hx)).2) with ⟨h1, h2⟩ | ⟨h1, h2⟩
  · rw [hP.split, hq.split] at h2; exact .inl ⟨h1, h2⟩
  · rw [hP.split, hq.split] at h2
    exact .inr ⟨_, splitL_ne _ _, h2, (join_split _).symm⟩
theorem joinP_ne {R : List Str} (h : OkN R) : joinP R ≠ [] := by
  intro e
  have := h.split
  rw [e] at this
  have h2 := (name_free (h.2 [] (by rw [← this]; simp [splitL]))).2
  exact h2 rfl
theorem below_empty {P q : List Str} (hP : OkN P) (hq : OkN q) : (belowL (joinP P) (joinP q)).isEmpty = true ↔ ¬ ∃ R, R ≠ [] ∧ P = q ++ R := by
  rcases below_names hP hq with ⟨h1, h2⟩ | ⟨R, h1, h2, h3⟩
  · rw [h1]; simp only [List.isEmpty_nil, true_iff]; exact h2
  · constructor
    · intro h; rw [h3] at h; exact absurd (List.isEmpty_iff.1 h) (joinP_ne (OkN.tail (h2 ▸ hP) h1))
    · intro h; exact absurd ⟨R, h1, h2⟩ h

theorem get_names {l : List NF} {q : List Str} (hl : ValidN l) (hq : OkN q) : getI (toF l) (joinP q) < 0 ↔ ∀ f ∈ l, f.1 ≠ q := by
  constructor
  · intro h f hf e
    have hg : getL (toF l) (joinP q) = none := by
      unfold getI at h; split at h
      · omega
      · assumption
    unfold getL at hg
    rw [List.findIdx?_eq_none_iff] at hg
    have := hg (joinP f.1, f.2) (List.mem_map.2 ⟨f, hf, rfl⟩)
    simp [e] at this
  · intro h
    rw [getI_miss]
    · omega
    · intro j hj
      obtain ⟨f, hf, e⟩ := List.mem_map.1 (List.getElem_mem hj)
      rw [beq_eq_false_iff_ne, ← e]
      simp only
      rw [Ne, (hl f hf).inj hq]
      exact h f hf

theorem crossed_names {l : List NF} {q : List Str} (hl : ValidN l) (hq : OkN q) : crossedL (toF l) (joinP q) = true ↔ ∃ f ∈ l, ∃ R, R ≠ [] ∧ q = f.1 ++ R := by
  unfold crossedL
  rw [List.any_eq_true]
  constructor
  · rintro ⟨g, hg, h⟩
    obtain ⟨f, hf, rfl⟩ := List.mem_map.1 hg
    simp only [Bool.not_eq_true', ← Bool.not_eq_true, below_empty hq (hl f hf)] at h
    exact ⟨f, hf, Classical.not_not.1 h⟩
  · rintro ⟨f, hf, h⟩
    refine ⟨(joinP f.1, f.2), List.mem_map.2 ⟨f, hf, rfl⟩, ?_⟩
    simp only [Bool.not_eq_true', ← Bool.not_eq_true, below_empty hq (hl f hf)]
    exact fun h2 => h2 h

theorem isDir_names {l : List NF} {q : List Str} (hl : ValidN l) (hq : OkN q) : isDirL (toF l) (joinP q) = true ↔ ∃ f ∈ l, ∃ R, R ≠ [] ∧ f.1 = q ++ R := by
  have hr : (joinP q == [47]) = false := by rw [beq_eq_false_iff_ne]; exact hq.root
  unfold isDirL
  rw [hr, Bool.false_or, Bool.not_eq_true', ← Bool.not_eq_true, List.isEmpty_iff]
  unfold inL
  rw [List.flatMap_eq_nil_iff]
  constructor
  · intro h
    refine Classical.byContradiction fun h2 => h fun g hg => ?_
    obtain ⟨f, hf, rfl⟩ := List.mem_map.1 hg
    rw [if_pos]
    rw [below_empty (hl f hf) hq]
    exact fun h3 => h2 ⟨f, hf, h3⟩
  · rintro ⟨f, hf, h⟩ h2
    have := h2 (joinP f.1, f.2) (List.mem_map.2 ⟨f, hf, rfl⟩)
    simp only at this
    split at this
    · rename_i h3; rw [below_empty (hl f hf) hq] at h3; exact h3 h
    · simp at this

theorem prefix_iff {q P : List Str} : q <+: P ↔ P = q ∨ ∃ R, R ≠ [] ∧ P = q ++ R := by
  constructor
  · rintro ⟨R, rfl⟩
    by_cases h : R = []
    · subst h; simp
    · exact .inr ⟨R, h, rfl⟩
  · rintro (rfl | ⟨R, _, rfl⟩)
    · exact List.prefix_rfl
    · exact List.prefix_append _ _

theorem without_names {l : List NF} {q : List Str} (hl : ValidN l) (hq : OkN q) : withoutL (toF l) (joinP q) = toF (l.filter fun f => decide (¬ q <+: f.1)) := by
  induction l with
  | nil => rfl
  | cons f l ih =>
    have ih := ih fun g hg => hl g (by simp [hg])
    have hf := hl f (by simp)
    have e : withoutL (toF (f :: l)) (joinP q) = (if (joinP f.1 == joinP q) || !(belowL (joinP f.1) (joinP q)).isEmpty then [] else [(joinP f.1, f.2)]) ++ withoutL (toF l) (joinP q) := by
      simp only [withoutL, toF, List.map_cons, List.flatMap_cons]
    rw [e, ih, List.filter_cons]
    by_cases hp : q <+: f.1
    · have h2 : ¬ (decide (¬ q <+: f.1)) = true := by simpa using hp
      rw [if_neg h2, if_pos, List.nil_append]
      rw [prefix_iff] at hp
      rcases hp with h | h
      · rw [h]; simp
      · have : ¬ (belowL (joinP f.1) (joinP q)).isEmpty = true := by rw [below_empty hf hq]; exact fun h3 => h3 h
        simp [this]
    · have h2 : (decide (¬ q <+: f.1)) = true := by simpa using hp
      rw [if_pos h2, if_neg]
      · simp [toF]
      · rw [prefix_iff, not_or] at hp
        have h3 := (below_empty hf hq).2 hp.2
        have h4 : (joinP f.1 == joinP q) = false := by rw [beq_eq_false_iff_ne, Ne, hf.inj hq]; exact hp.1
        simp [h3, h4]

def insN : List NF → NF → List NF
  | [], f => [f]
  | g :: l, f => if f.1 = g.1 then f :: l else if lessS f.1 g.1 then f :: g :: l else g :: insN l f

theorem insN_mem {l : List NF} (hs : SortedN l) (f : NF) : ∀ x, x ∈ insN l f ↔ x = f ∨ (x ∈ l ∧ x.1 ≠ f.1) := by
  induction l with
  | nil => intro x; simp [insN]
  | cons g l ih =>
    unfold SortedN at hs
    rw [List.pairwise_cons] at hs
    have ih := ih hs.2
    intro x
    rw [insN]
    by_cases e : f.1 = g.1
    · rw [if_pos e]
      simp only [List.mem_cons]
      constructor
      · rintro (h | h)
        · exact .inl h
        · refine .inr ⟨.inr h, ?_⟩
          intro e2; have := hs.1 x h; rw [e2, e, ls_irrefl] at this; simp at this
      · rintro (h | ⟨h | h, h2⟩)
        · exact .inl h
        · subst h; exact absurd e.symm h2
        · exact .inr h
    · rw [if_neg e]
      by_cases hl : lessS f.1 g.1 = true
      · rw [if_pos hl]
        simp only [List.mem_cons]
        constructor
        · rintro (h | h | h)
          · exact .inl h
          · exact .inr ⟨.inl h, by rw [h]; exact Ne.symm e⟩
          · refine .inr ⟨.inr h, ?_⟩
            intro e2; have := ls_trans hl (hs.1 x h); rw [e2, ls_irrefl] at this; simp at this
        · rintro (h | ⟨h | h, _⟩)
          · exact .inl h
          · exact .inr (.inl h)
          · exact .inr (.inr h)
      · rw [if_neg hl]
        simp only [List.mem_cons, ih x]
        constructor
        · rintro (h | h | ⟨h, h2⟩)
          · exact .inr ⟨.inl h, by rw [h]; exact Ne.symm e⟩
          · exact .inl h
          · exact .inr ⟨.inr h, h2⟩
        · rintro (h | ⟨h | h, h2⟩)
          · exact .inr (.inl h)
          · exact .inl h
          · exact .inr (.inr ⟨h, h2⟩)

theorem insN_sorted {l : List NF} (hs : SortedN l) (f : NF) : SortedN (insN l f) := by
  induction l with
  | nil => unfold SortedN insN; simp
  | cons g l ih =>
    have hs0 := hs
    unfold SortedN at hs
    rw [List.pairwise_cons] at hs
    rw [insN]
    by_cases e : f.1 = g.1
    · rw [if_pos e]; unfold SortedN; rw [List.pairwise_cons]
      exact ⟨fun x hx => by rw [e]; exact hs.1 x hx, hs.2⟩
    · rw [if_neg e]
      by_cases hl : lessS f.1 g.1 = true
      · rw [if_pos hl]; unfold SortedN; rw [List.pairwise_cons]
        refine ⟨fun x hx => ?_, hs0⟩
        simp at hx; rcases hx with rfl | hx
        · exact hl
        · exact ls_trans hl (hs.1 x hx)
      · rw [if_neg hl]; unfold SortedN; rw [List.pairwise_cons]
        refine ⟨fun x hx => ?_, ih hs.2⟩
        rcases (insN_mem hs.2 f x).1 hx with rfl | ⟨hx, _⟩
        · exact ls_total (by simpa using hl) e
        · exact hs.1 x hx

theorem less_names {a b : List Str} (ha : OkN a) (hb : OkN b) : lessL (joinP a) (joinP b) = lessS a b := by rw [lessL, ha.split, hb.split]

theorem fold_done {l : List NF} {f : NF} {acc : List Fl} (hl : ValidN l) (hf : OkN f.1) (hs : ∀ g ∈ l, lessS f.1 g.1 = true) : (toF l).foldl (putStep (joinP f.1, f.2)) (acc, true) = (acc ++ toF l, true) := by
  induction l generalizing acc with
  | nil => simp [toF]
  | cons g l ih =>
    have hg := hl g (by simp)
    have hne : (joinP g.1 == joinP f.1) = false := by
      rw [beq_eq_false_iff_ne, Ne, hg.inj hf]; intro e; have := hs g (by simp); rw [e, ls_irrefl] at this; simp at this
    have e : toF (g :: l) = (joinP g.1, g.2) :: toF l := rfl
    rw [e, List.foldl_cons]
    have h2 : putStep (joinP f.1, f.2) (acc, true) (joinP g.1, g.2) = (acc ++ [(joinP g.1, g.2)], true) := by simp [putStep, hne]
    rw [h2, ih (fun g hg => hl g (by simp [hg])) (fun g hg => hs g (by simp [hg]))]
    simp

theorem fold_put {l : List NF} {f : NF} {acc : List Fl} (hl : ValidN l) (hf : OkN f.1) (hs : SortedN l) :
    (if ((toF l).foldl (putStep (joinP f.1, f.2)) (acc, false)).2 then ((toF l).foldl (putStep (joinP f.1, f.2)) (acc, false)).1 else ((toF l).foldl (putStep (joinP f.1, f.2)) (acc, false)).1 ++ [(joinP f.1, f.2)]) = acc ++ toF (insN l f) := by
  induction l generalizing acc with
  | nil => simp [toF, insN]
  | cons g l ih =>
    have hg := hl g (by simp)
    have hl' : ValidN l := fun g hg => hl g (by simp [hg])
    unfold SortedN at hs
    rw [List.pairwise_cons] at hs
    have e : toF (g :: l) = (joinP g.1, g.2) :: toF l := rfl
    rw [e, List.foldl_cons, insN]
    by_cases h1 : f.1 = g.1
    · have h2 : putStep (joinP f.1, f.2) (acc, false) (joinP g.1, g.2) = (acc ++ [(joinP f.1, f.2)], true) := by simp [putStep, h1]
      rw [h2, fold_done hl' hf (fun x hx => by rw [h1]; exact hs.1 x hx), if_pos h1]
      simp [toF]
    · have hne : (joinP g.1 == joinP f.1) = false := by rw [beq_eq_false_iff_ne, Ne, hg.inj hf]; exact Ne.symm h1
      have hne2 : (joinP f.1 == joinP g.1) = false := by rw [beq_eq_false_iff_ne, Ne, hf.inj hg]; exact h1
      rw [if_neg h1]
      by_cases h3 : lessS f.1 g.1 = true
      · have h2 : putStep (joinP f.1, f.2) (acc, false) (joinP g.1, g.2) = (acc ++ [(joinP f.1, f.2), (joinP g.1, g.2)], true) := by simp [putStep, hne, less_names hf hg, h3]
        rw [h2, fold_done hl' hf (fun x hx => ls_trans h3 (hs.1 x hx)), if_pos h3]
        simp [toF]
      · have h2 : putStep (joinP f.1, f.2) (acc, false) (joinP g.1, g.2) = (acc ++ [(joinP g.1, g.2)], false) := by simp [putStep, hne, hne2, less_names hf hg, h3]
        rw [h2, ih hl' hs.2, if_neg h3]
        simp [toF]

theorem put_names {l : List NF} {f : NF} (hl : ValidN l) (hf : OkN f.1) (hs : SortedN l) : putL (toF l) (joinP f.1, f.2) = toF (insN l f) := by
  have := fold_put (acc := []) hl hf hs
  rw [List.nil_append] at this
  rw [← this]; rfl

/-- The files of a tree have good paths. -/
theorem valid_files {es : Ents} (h : WFE es) : ValidN (filesE es) ∧ ∀ f ∈ filesE es, f.2.length ≤ 30 := by
  have key : ∀ (p : List Str) (t : Tree), WFT t → ∀ d, sub t p = some (.file d) → (∀ x ∈ p, isNameL x false = true) ∧ d.length ≤ 30 := by
    intro p
    induction p with
    | nil => intro t ht d hs; rw [sub] at hs; simp at hs; subst hs; unfold WFT at ht; exact ⟨by simp, ht⟩
    | cons x r ih =>
      intro t ht d hs
      cases t with
      | file e => simp [sub] at hs
      | dir es' =>
        unfold WFT at ht
        rw [sub] at hs
        cases hf : findE es' x with
        | none => rw [hf] at hs; simp at hs
        | some u =>
          rw [hf] at hs
          have hm := ht.2.mem _ (findE_mem hf)
          obtain ⟨h1, h2⟩ := ih u hm.2 d hs
          exact ⟨fun y hy => by simp at hy; rcases hy with rfl | hy; exact hm.1; exact h1 y hy, h2⟩
  have : ∀ p d, (p, d) ∈ filesE es → OkN p ∧ d.length ≤ 30 := by
    intro p d hp
    obtain ⟨x, r, t, rfl, h1, h2⟩ := (mem_filesE es h p d).1 hp
    have hm := h.mem _ (findE_mem h1)
    obtain ⟨h3, h4⟩ := key r t hm.2 d h2
    exact ⟨⟨by simp, fun y hy => by simp at hy; rcases hy with rfl | hy; exact hm.1; exact h3 y hy⟩, h4⟩
  exact ⟨fun f hf => (this f.1 f.2 hf).1, fun f hf => (this f.1 f.2 hf).2⟩

theorem filter_sorted {l : List NF} (h : SortedN l) (q : NF → Bool) : SortedN (l.filter q) := List.Pairwise.filter q h

/-- Put: the files of the tree are the document's. -/
theorem put_files {es : Ents} {q : List Str} {d : Str} (h : WFE es) (hq : OkN q) (hd : d.length ≤ 30) (hb : look (some (.dir es)) q ≠ .blocked) (hdir : ∀ R e, R ≠ [] → fileAt (.dir es) (q ++ R) ≠ some e) :
    filesE (putE es q (.file d)) = insN (filesE es) (q, d) := by
  have hw : WFE (putE es q (.file d)) := (put_wf h hq.2 (by unfold WFT; exact hd)).1
  refine sorted_unique (sorted_filesE _ hw) (insN_sorted (sorted_filesE _ h) _) ?_
  rintro ⟨p, e⟩
  rw [mem_root hw, insN_mem (sorted_filesE _ h), mem_root h, fileAt_put hq.1 hb]
  by_cases hp : q <+: p
  · rw [if_pos hp, fileAt_file]
    obtain ⟨R, rfl⟩ := hp
    rw [List.drop_left]
    by_cases hR : R = []
    · subst hR; simp; constructor
      · intro h; exact h.symm
      · intro h; exact h.symm
    · rw [if_neg hR]
      constructor
      · intro h; simp at h
      · rintro (h2 | ⟨h2, _⟩)
        · simp at h2; exact absurd h2.1 hR
        · exact absurd h2 (hdir R e hR)
  · rw [if_neg hp]
    constructor
    · intro h2
      refine .inr ⟨h2, ?_⟩
      intro e2; simp only at e2; subst e2; exact hp List.prefix_rfl
    · rintro (h2 | ⟨h2, _⟩)
      · simp at h2; rw [h2.1] at hp; exact absurd List.prefix_rfl hp
      · exact h2

/-- Delete: the files of the tree are the document's. -/
theorem remove_files {es : Ents} {q : List Str} (h : WFE es) (hq : OkN q) (hb : look (some (.dir es)) q ≠ .blocked) : filesE (removeE es q) = (filesE es).filter fun f => decide (¬ q <+: f.1) := by
  have hw : WFE (removeE es q) := remove_wf h hq.2
  refine sorted_unique (sorted_filesE _ hw) (filter_sorted (sorted_filesE _ h) _) ?_
  rintro ⟨p, e⟩
  rw [mem_root hw, List.mem_filter, mem_root h, fileAt_remove hq.1 hb]
  by_cases hp : q <+: p
  · rw [if_pos hp]; simp [hp]
  · rw [if_neg hp]; simp [hp]

/-- What look tells, by the document's files. -/
theorem look_names {es : Ents} {q : List Str} (h : WFE es) (hq : OkN q) :
    (look (some (.dir es)) q = .atFile ↔ ¬ getI (toF (filesE es)) (joinP q) < 0) ∧ (look (some (.dir es)) q = .atDir ↔ isDirL (toF (filesE es)) (joinP q) = true) ∧ (look (some (.dir es)) q = .blocked ↔ crossedL (toF (filesE es)) (joinP q) = true) := by
  have hv := (valid_files h).1
  rw [get_names hv hq, isDir_names hv hq, crossed_names hv hq]
  by_cases he : es = []
  · subst he
    obtain ⟨hq1, hq2⟩ := hq
    cases q with
    | nil => exact absurd rfl hq1
    | cons x r => simp [look, findE, filesE]
  · have hw : WFT (.dir es) := by unfold WFT; exact ⟨he, h⟩
    obtain ⟨h1, h2, h3⟩ := look_files q (.dir es) hw
    refine ⟨?_, ?_, ?_⟩
    · rw [h1]
      constructor
      · rintro ⟨d, hd⟩ hall; exact hall (q, d) ((mem_root h q d).2 hd) rfl
      · intro hn
        refine Classical.byContradiction fun hc => hn fun f hf e => hc ⟨f.2, ?_⟩
        rw [← e]; exact (mem_root h f.1 f.2).1 hf
    · rw [h2]
      constructor
      · rintro ⟨R, d, hR, hd⟩; exact ⟨(q ++ R, d), (mem_root h _ _).2 hd, R, hR, rfl⟩
      · rintro ⟨f, hf, R, hR, e⟩; exact ⟨R, f.2, hR, by rw [← e]; exact (mem_root h f.1 f.2).1 hf⟩
    · rw [h3]
      constructor
      · rintro ⟨P, R, d, hR, e, hd⟩; exact ⟨(P, d), (mem_root h _ _).2 hd, R, hR, e⟩
      · rintro ⟨f, hf, R, hR, e⟩; exact ⟨f.1, R, f.2, hR, e, (mem_root h f.1 f.2).1 hf⟩

end Go.Proofs.YtdcbgfhkfmohiaaGreatDoor
