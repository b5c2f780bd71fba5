/- Contracts of the document's answer (package canopyref): its store: New, Release. -/
import Derived.Test.YtdcbgfhkfmohiaaGreatDoorKb01
namespace Go.Proofs.YtdcbgfhkfmohiaaGreatDoor
open Go.RowKit

def releaseR (r : RSt) (n : Int) : RSt × Nat :=
  match findL r.all n with
  | none => (r, 2)
  | some _ => ({ r with all := r.all.filter fun x => !((x.1 : Int) == n) }, 0)

def ReleaseOut (w : World) (b : Nat) (va vr : Value) (sn : List (Nat × Value)) (o : RSt × Nat) (e : Ending) (w' : World) : Prop :=
  ∃ va' sn', e = .returned (.int .i64 o.2) ∧ RefAt w' b o.1 va' vr sn' ∧ RefStep w b va sn w' va' sn'

/-- The two lists side by side, but those of a number. -/
def keepN (n : Int) (x : Nat × Value) : Bool := !((x.1 : Int) == n)

inductive Side (w : World) : List (Nat × Value) → List (Nat × List Fl) → Prop
  | nil : Side w [] []
  | cons {x : Nat × Value} {y : Nat × List Fl} {s : List (Nat × Value)} {t : List (Nat × List Fl)} (h1 : x.1 = y.1) (h2 : FilesAt w x.2 y.2) (h : Side w s t) : Side w (x :: s) (y :: t)

theorem Side.mk {sn : List (Nat × Value)} {all : List (Nat × List Fl)} {w : World} (hlen : sn.length = all.length) (hnum : ∀ k (h : k < sn.length) (h' : k < all.length), sn[k].1 = all[k].1) (hfil : ∀ k (h : k < sn.length) (h' : k < all.length), FilesAt w sn[k].2 all[k].2) : Side w sn all := by
  induction sn generalizing all with
  | nil => cases all with
    | nil => exact .nil
    | cons y t => simp at hlen
  | cons x s ih => cases all with
    | nil => simp at hlen
    | cons y t =>
      refine .cons (hnum 0 (by simp) (by simp)) (hfil 0 (by simp) (by simp)) (ih (by simpa using hlen) ?_ ?_)
      · intro k h h'; have := hnum (k + 1) (by simp; omega) (by simp; omega); exact this
      · intro k h h'; have := hfil (k + 1) (by simp; omega) (by simp; omega); exact this

theorem Side.len {sn : List (Nat × Value)} {all : List (Nat × List Fl)} {w : World} (h : Side w sn all) : sn.length = all.length := by
  induction h with
  | nil => rfl
  | cons _ _ _ ih => simp [ih]
theorem Side.num {sn : List (Nat × Value)} {all : List (Nat × List Fl)} {w : World} (h : Side w sn all) : ∀ k (h : k < sn.length) (h' : k < all.length), sn[k].1 = all[k].1 := by
  induction h with
  | nil => intro k h; simp at h
  | cons h1 _ _ ih => intro k h h'; cases k with
    | zero => exact h1
    | succ k => exact ih k (by simpa using h) (by simpa using h')
theorem Side.fil {sn : List (Nat × Value)} {all : List (Nat × List Fl)} {w : World} (h : Side w sn all) : ∀ k (h : k < sn.length) (h' : k < all.length), FilesAt w sn[k].2 all[k].2 := by
  induction h with
  | nil => intro k h; simp at h
  | cons _ h2 _ ih => intro k h h'; cases k with
    | zero => exact h2
    | succ k => exact ih k (by simpa using h) (by simpa using h')
theorem Side.filter {sn : List (Nat × Value)} {all : List (Nat × List Fl)} {w : World} (h : Side w sn all) (n : Int) : Side w (sn.filter (keepN n)) (all.filter fun x => !((x.1 : Int) == n)) := by
  induction h with
  | nil => exact .nil
  | @cons x y s t h1 h2 _ ih =>
    rw [List.filter_cons, List.filter_cons]
    have e : keepN n x = !((y.1 : Int) == n) := by rw [keepN, h1]
    rw [e]
    split
    · exact .cons h1 h2 ih
    · exact ih

end Go.Proofs.YtdcbgfhkfmohiaaGreatDoor

/- Contracts of the document's answer (package canopyref): its store: New. -/
namespace Go.Proofs.YtdcbgfhkfmohiaaGreatDoor
open Go.RowKit

def newR (c : Nat) : RSt := ⟨c, 1, [(0, [])]⟩

def RefNewOut (w : World) (c : Nat) (e : Ending) (w' : World) : Prop :=
  ∃ b va, w.heap.size ≤ b ∧ e = .returned (.tuple #[.pointer (some ⟨b, 0, none⟩), .int .i64 0]) ∧ RefAt w' b (newR c) va (.slice none 0 0) [(0, .slice none 0 0)] ∧ Below w.heap.size w w' ∧ ∀ k, va.ownBlock = some k → w.heap.size ≤ k

end Go.Proofs.YtdcbgfhkfmohiaaGreatDoor

/- Contracts of the document's answer (package canopyref): its store: Move. -/
namespace Go.Proofs.YtdcbgfhkfmohiaaGreatDoor
open Go.RowKit

theorem splitL_total (c : UInt8) (s : Str) : ((splitL c s).map fun x => x.length + 1).sum = s.length + 1 := by
  induction s with
  | nil => simp [splitL]
  | cons b t ih =>
    unfold splitL; split
    · simp; omega
    · have := splitL_ne c t
      split
      · rename_i h r he; rw [he] at ih; simp at ih ⊢; omega
      · rename_i he; exact absurd he this
theorem sum_le {l : List Str} {m : Nat} (h : ∀ x ∈ l, x.length ≤ m) : (l.map fun x => x.length + 1).sum ≤ l.length * (m + 1) := by
  induction l with
  | nil => simp
  | cons x t ih =>
    have h1 := h x (by simp)
    have h2 := ih (fun y hy => h y (by simp [hy]))
    simp only [List.map_cons, List.sum_cons, List.length_cons, Nat.add_mul]; omega
theorem isNameL_len {s : Str} {wild : Bool} (h : isNameL s wild = true) : 1 ≤ s.length ∧ s.length ≤ 8 := by
  unfold isNameL at h; simp at h; exact ⟨h.1.1, h.1.2⟩
def moveStep (src dst : Str) (m : Option (List Fl)) (f : Fl) : Option (List Fl) :=
  m.bind fun m => if (f.1 == src) = true then some (putL m (dst, f.2)) else if (belowL f.1 src).isEmpty = true then some m
    else if 5 < (splitL 47 (dst ++ 47 :: belowL f.1 src)).length then none else some (putL m (dst ++ 47 :: belowL f.1 src, f.2))
def moveL (l : List Fl) (src dst : Str) : Option (List Fl) := l.foldl (moveStep src dst) (some (withoutL l src))

def moveR (r : RSt) (n : Int) (src dst : Str) : RSt × Nat × Nat :=
  match findL r.all n with
  | none => (r, 0, 2)
  | some l => if isPathL src = false ∨ isPathL dst = false then (r, 0, 3) else if (withoutL l src).length = l.length then (r, 0, 6)
    else if 0 ≤ getI l dst ∨ isDirL l dst = true ∨ crossedL l dst = true ∨ (src == dst) = true ∨ (belowL dst src).isEmpty = false then (r, 0, 5)
    else match moveL l src dst with
      | none => (r, 0, 3)
      | some m => keepR r m

def movedB (src : Str) (f : Fl) : Bool := (f.1 == src) || !(belowL f.1 src).isEmpty

theorem without_count (l : List Fl) (src : Str) : (withoutL l src).length + l.countP (movedB src) = l.length := by
  unfold withoutL; induction l with
  | nil => simp
  | cons f t ih =>
    simp only [List.flatMap_cons, List.length_append, List.countP_cons, List.length_cons] at *
    by_cases hb : (f.1 == src || !(belowL f.1 src).isEmpty) = true
    · have hb2 : movedB src f = true := hb
      rw [if_pos hb, if_pos hb2, List.length_nil]; omega
    · have hb2 : ¬ movedB src f = true := hb
      rw [if_neg hb, if_neg hb2, List.length_cons, List.length_nil]; omega

/-- What the list is after k files have been looked at. -/
structure MoveAt (l : List Fl) (src dst : Str) (k : Nat) (m : List Fl) : Prop where
  eq : (l.take k).foldl (moveStep src dst) (some (withoutL l src)) = some m
  len : m.length ≤ (withoutL l src).length + (l.take k).countP (movedB src)
  mem : ∀ f ∈ m, f.1.length ≤ dst.length + 1 + 44 ∧ f.2.length ≤ 30

theorem MoveAt.start {l : List Fl} {src dst : Str} (ht : Tiny l) (hs : ∀ f ∈ l, f.1.length ≤ 44) : MoveAt l src dst 0 (withoutL l src) :=
  ⟨rfl, by simp, fun f hf => by have h1 := hs f (without_mem f hf); have h2 := (ht.2 f (without_mem f hf)).2; omega⟩

theorem putL_len_le (l : List Fl) (f : Fl) : (putL l f).length ≤ l.length + 1 := by have := putL_len l f; omega

theorem fold_take {l : List Fl} {src dst : Str} {k : Nat} {z : Option (List Fl)} (hk : k < l.length) : (l.take (k + 1)).foldl (moveStep src dst) z = moveStep src dst ((l.take k).foldl (moveStep src dst) z) l[k] := by
  rw [List.take_succ_eq_append_getElem hk, List.foldl_append]; rfl
theorem fold_none {src dst : Str} (l : List Fl) : l.foldl (moveStep src dst) none = none := by
  induction l with
  | nil => rfl
  | cons f t ih => exact ih
theorem moveL_none {l : List Fl} {src dst : Str} {k : Nat} (h : (l.take k).foldl (moveStep src dst) (some (withoutL l src)) = none) : moveL l src dst = none := by
  unfold moveL
  conv => lhs; rw [← List.take_append_drop k l]
  rw [List.foldl_append, List.take_append_drop, h, fold_none]

theorem MoveAt.file {l : List Fl} {src dst : Str} {k : Nat} {m : List Fl} (h : MoveAt l src dst k m) (ht : Tiny l) (hk : k < l.length) (he : (l[k].1 == src) = true) : MoveAt l src dst (k + 1) (putL m (dst, l[k].2)) := by
  have hd := (ht.2 l[k] (List.getElem_mem hk)).2
  have hp := putL_len_le m (dst, l[k].2)
  refine ⟨?_, ?_, ?_⟩
  · rw [fold_take hk, h.eq, moveStep]; simp [he]
  · rw [List.take_succ_eq_append_getElem hk, List.countP_append]; have := h.len; simp [movedB, he]; omega
  · intro f hf; rcases putL_mem f hf with h1 | h1
    · exact h.mem f h1
    · subst h1; simp only; omega
theorem MoveAt.deep {l : List Fl} {src dst : Str} {k : Nat} {m : List Fl} (h : MoveAt l src dst k m) (hk : k < l.length) (he : (l[k].1 == src) = false) (hb : (belowL l[k].1 src).isEmpty = false)
    (h5 : 5 < (splitL 47 (dst ++ 47 :: belowL l[k].1 src)).length) : moveL l src dst = none := by
  refine moveL_none (k := k + 1) ?_
  rw [fold_take hk, h.eq, moveStep]; simp [he, hb]; omega

theorem MoveAt.small {l : List Fl} {src dst : Str} {k : Nat} {m : List Fl} (h : MoveAt l src dst k m) (ht : Tiny l) (hd : dst.length ≤ 44) : Small m := by
  have h1 := without_len l src
  have h2 := ht.1
  have h3 : (l.take k).countP (movedB src) ≤ (l.take k).length := List.countP_le_length
  have h4 : (l.take k).length ≤ l.length := by simp; omega
  refine ⟨by have := h.len; omega, fun f hf => by have := h.mem f hf; omega⟩
theorem MoveAt.tiny {l : List Fl} {src dst : Str} {m : List Fl} (h : MoveAt l src dst l.length m) (ht : Tiny l) (hd : dst.length ≤ 44) : Tiny m := by
  have h1 := without_count l src
  have h2 := ht.1
  have h3 := h.len
  rw [List.take_length] at h3
  exact ⟨by omega, fun f hf => by have := h.mem f hf; omega⟩

theorem moveR_5 {r : RSt} {n : Int} {src dst : Str} {l : List Fl} (hf : findL r.all n = some l) (h1 : isPathL src = true) (h2 : isPathL dst = true) (h3 : ¬ (withoutL l src).length = l.length) (h4 : 0 ≤ getI l dst ∨ isDirL l dst = true ∨ crossedL l dst = true ∨ (src == dst) = true ∨ (belowL dst src).isEmpty = false) : moveR r n src dst = (r, 0, 5) := by
  rw [moveR, hf]; simp only; rw [if_neg (by simp [h1, h2]), if_neg h3, if_pos h4]
theorem moveR_go {r : RSt} {n : Int} {src dst : Str} {l : List Fl} (hf : findL r.all n = some l) (h1 : isPathL src = true) (h2 : isPathL dst = true) (h3 : ¬ (withoutL l src).length = l.length) (h4 : ¬ (0 ≤ getI l dst ∨ isDirL l dst = true ∨ crossedL l dst = true ∨ (src == dst) = true ∨ (belowL dst src).isEmpty = false)) :
    moveR r n src dst = match moveL l src dst with
      | none => (r, 0, 3)
      | some m => keepR r m := by
  rw [moveR, hf]; simp only; rw [if_neg (by simp [h1, h2]), if_neg h3, if_neg h4]

end Go.Proofs.YtdcbgfhkfmohiaaGreatDoor

/- Contracts of the document's answer (package canopyref): IsPlace, Same. -/
namespace Go.Proofs.YtdcbgfhkfmohiaaGreatDoor
open Go.RowKit

def isPlaceL (s : Str) : Bool := isPathL s || (s == [47])

def dataAt (l : List Fl) (x : Int) : Str := match l[x.toNat]? with
  | some f => f.2
  | none => []
def sameF (l m : List Fl) (p : Str) : Bool × Nat :=
  if (getI l p < 0 ∧ isDirL l p = false) ∨ (getI m p < 0 ∧ isDirL m p = false) then (false, 6)
  else if 0 ≤ getI l p ∧ 0 ≤ getI m p then (dataAt l (getI l p) == dataAt m (getI m p), 0)
  else if isDirL l p = true ∧ isDirL m p = true then (spellL (inL l p) == spellL (inL m p), 0)
  else (false, 0)
def sameR (r : RSt) (a b : Int) (p : Str) : Bool × Nat :=
  match findL r.all a, findL r.all b with
  | some l, some m => if isPlaceL p = false then (false, 3) else sameF l m p
  | _, _ => (false, 2)

theorem getI_lt {l : List Fl} {p : Str} (h : 0 ≤ getI l p) : ∃ k : Nat, getI l p = (k : Int) ∧ k < l.length := by
  unfold getI at h ⊢
  split
  · rename_i k hk
    unfold getL at hk
    rw [List.findIdx?_eq_some_iff_getElem] at hk
    exact ⟨k, rfl, hk.1⟩
  · rename_i hk; rw [hk] at h; simp at h

def SameOut (w : World) (o : Bool × Nat) (e : Ending) (w' : World) : Prop := e = .returned (.tuple #[.bool o.1, .int .i64 o.2]) ∧ Below w.heap.size w w'

end Go.Proofs.YtdcbgfhkfmohiaaGreatDoor

/- Contracts of the document's answer (package canopyref): Diff. -/
namespace Go.Proofs.YtdcbgfhkfmohiaaGreatDoor
open Go.RowKit

def diffA (m both : List Fl) (f : Fl) : List Fl := if getI m f.1 < 0 then putL both (f.1, [45]) else if dataAt m (getI m f.1) = f.2 then both else putL both (f.1, [126])
def diffB (l both : List Fl) (f : Fl) : List Fl := if getI l f.1 < 0 then putL both (f.1, [43]) else both
def diffL (l m : List Fl) : List Fl := m.foldl (diffB l) (l.foldl (diffA m) [])
def lineF (f : Fl) : Str := f.2 ++ (f.1 ++ [10])
def diffT (l m : List Fl) : Str := (diffL l m).flatMap lineF
def diffR (r : RSt) (a b : Int) : Str × Nat :=
  match findL r.all a, findL r.all b with
  | some l, some m => (diffT l m, 0)
  | _, _ => ([], 2)

def DSmall (n : Nat) (l : List Fl) : Prop := l.length ≤ n ∧ ∀ f ∈ l, f.1.length ≤ 100 ∧ f.2.length ≤ 1
theorem DSmall.small {n : Nat} {l : List Fl} (h : DSmall n l) (hn : n ≤ 1000) : Small l := ⟨by have := h.1; omega, fun f hf => by have := h.2 f hf; omega⟩
theorem DSmall.put {n : Nat} {l : List Fl} {f : Fl} (h : DSmall n l) (h1 : f.1.length ≤ 100) (h2 : f.2.length ≤ 1) : DSmall (n + 1) (putL l f) := by
  refine ⟨by have := putL_len_le l f; have := h.1; omega, fun g hg => ?_⟩
  rcases putL_mem g hg with h3 | h3
  · exact h.2 g h3
  · subst h3; exact ⟨h1, h2⟩
theorem DSmall.mono {n n' : Nat} {l : List Fl} (h : DSmall n l) (hn : n ≤ n') : DSmall n' l := ⟨by have := h.1; omega, h.2⟩

def DiffOut (w : World) (o : Str × Nat) (e : Ending) (w' : World) : Prop := e = .returned (.tuple #[SV o.1, .int .i64 o.2]) ∧ Below w.heap.size w w'

end Go.Proofs.YtdcbgfhkfmohiaaGreatDoor

/- Plain facts: the order of texts and of paths; paths as lists of names. -/
namespace Go.Proofs.YtdcbgfhkfmohiaaGreatDoor

theorem bl_irrefl (x : Str) : Op.bytesLess x x = false := by
  induction x with
  | nil => rfl
  | cons a x ih => simp [Op.bytesLess, ih]
theorem bl_asymm {x y : Str} (h : Op.bytesLess x y = true) : Op.bytesLess y x = false := by
  induction x generalizing y with
  | nil => cases y with
    | nil => rfl
    | cons b y => rfl
  | cons a x ih => cases y with
    | nil => simp [Op.bytesLess] at h
    | cons b y =>
      simp only [Op.bytesLess, Bool.or_eq_true, decide_eq_true_eq, Bool.and_eq_true, beq_iff_eq] at h
      simp only [Op.bytesLess, Bool.or_eq_false_iff, decide_eq_false_iff_not, Bool.and_eq_false_iff, beq_eq_false_iff_ne]
      rcases h with h | ⟨rfl, h⟩
      · refine ⟨?_, .inl ?_⟩
        · intro h2; rw [UInt8.lt_iff_toNat_lt] at h h2; omega
        · intro e; subst e; rw [UInt8.lt_iff_toNat_lt] at h; omega
      · exact ⟨by rw [UInt8.lt_iff_toNat_lt]; omega, .inr (ih h)⟩
theorem bl_total {x y : Str} (h : Op.bytesLess x y = false) (hne : x ≠ y) : Op.bytesLess y x = true := by
  induction x generalizing y with
  | nil => cases y with
    | nil => exact absurd rfl hne
    | cons b y => simp [Op.bytesLess] at h
  | cons a x ih => cases y with
    | nil => rfl
    | cons b y =>
      simp only [Op.bytesLess, Bool.or_eq_false_iff, decide_eq_false_iff_not, Bool.and_eq_false_iff, beq_eq_false_iff_ne] at h
      simp only [Op.bytesLess, Bool.or_eq_true, decide_eq_true_eq, Bool.and_eq_true, beq_iff_eq]
      by_cases e : a = b
      · subst e
        right; refine ⟨rfl, ih ?_ ?_⟩
        · rcases h.2 with h2 | h2
          · exact absurd rfl h2
          · exact h2
        · intro e; subst e; exact hne rfl
      · left
        have h1 := h.1
        rw [UInt8.lt_iff_toNat_lt] at h1 ⊢
        have : a.toNat ≠ b.toNat := fun h => e (UInt8.toNat_inj.1 h)
        omega
theorem bl_trans {x y z : Str} (h1 : Op.bytesLess x y = true) (h2 : Op.bytesLess y z = true) : Op.bytesLess x z = true := by
  induction x generalizing y z with
  | nil => cases z with
    | nil => cases y <;> simp [Op.bytesLess] at h2
    | cons c z => rfl
  | cons a x ih => cases y with
    | nil => simp [Op.bytesLess] at h1
    | cons b y => cases z with
      | nil => simp [Op.bytesLess] at h2
      | cons c z =>
        simp only [Op.bytesLess, Bool.or_eq_true, decide_eq_true_eq, Bool.and_eq_true, beq_iff_eq] at *
        rcases h1 with h1 | ⟨rfl, h1⟩
        · rcases h2 with h2 | ⟨rfl, h2⟩
          · left; rw [UInt8.lt_iff_toNat_lt] at *; omega
          · exact .inl h1
        · rcases h2 with h2 | ⟨rfl, h2⟩
          · exact .inl h2
          · exact .inr ⟨rfl, ih h1 h2⟩

theorem ls_asymm {x y : List Str} (h : lessS x y = true) : lessS y x = false := by
  induction x generalizing y with
  | nil => cases y with
    | nil => simp [lessS] at h
    | cons b y => rfl
  | cons a x ih => cases y with
    | nil => simp [lessS] at h
    | cons b y =>
      rw [lessS] at h ⊢
      by_cases e : a = b
      · subst e; rw [if_pos rfl] at h ⊢; exact ih h
      · rw [if_neg e] at h; rw [if_neg (Ne.symm e)]; exact bl_asymm h
theorem ls_irrefl (x : List Str) : lessS x x = false := by
  induction x with
  | nil => rfl
  | cons a x ih => rw [lessS, if_pos rfl]; exact ih
theorem ls_trans {x y z : List Str} (h1 : lessS x y = true) (h2 : lessS y z = true) : lessS x z = true := by
  induction x generalizing y z with
  | nil => cases z with
    | nil => cases y <;> simp [lessS] at h2
    | cons c z => rfl
  | cons a x ih => cases y with
    | nil => simp [lessS] at h1
    | cons b y => cases z with
      | nil => simp [lessS] at h2
      | cons c z =>
        rw [lessS] at h1 h2 ⊢
        by_cases e1 : a = b
        · subst e1; rw [if_pos rfl] at h1
          by_cases e2 : a = c
          · subst e2; rw [if_pos rfl] at h2 ⊢; exact ih h1 h2
          · rw [if_neg e2] at h2 ⊢; exact h2
        · rw [if_neg e1] at h1
          by_cases e2 : b = c
          · subst e2; rw [if_neg e1]; exact h1
          · rw [if_neg e2] at h2
            have h3 := bl_trans h1 h2
            by_cases e3 : a = c
            · subst e3; rw [bl_irrefl] at h3; simp at h3
            · rw [if_neg e3]; exact h3
theorem ls_total {x y : List Str} (h : lessS x y = false) (hne : x ≠ y) : lessS y x = true := by
  induction x generalizing y with
  | nil => cases y with
    | nil => exact absurd rfl hne
    | cons b y => simp [lessS] at h
  | cons a x ih => cases y with
    | nil => rfl
    | cons b y =>
      rw [lessS] at h ⊢
      by_cases e : a = b
      · subst e; rw [if_pos rfl] at h ⊢; exact ih h (fun h => hne (by rw [h]))
      · rw [if_neg e] at h; rw [if_neg (Ne.symm e)]; exact bl_total h e

/-- Names laid side by side, a slash between each two. -/
def joinP : List Str → Str
  | [] => []
  | [x] => x
  | x :: y :: r => x ++ 47 :: joinP (y :: r)

theorem joinP_cons {x : Str} {r : List Str} (h : r ≠ []) : joinP (x :: r) = x ++ 47 :: joinP r := by
  cases r with
  | nil => exact absurd rfl h
  | cons y r => rfl
theorem joinP_app {a b : List Str} (ha : a ≠ []) (hb : b ≠ []) : joinP (a ++ b) = joinP a ++ 47 :: joinP b := by
  induction a with
  | nil => exact absurd rfl ha
  | cons x r ih =>
    cases r with
    | nil => rw [List.singleton_append, joinP_cons hb]; rfl
    | cons y r =>
      rw [List.cons_append, joinP_cons (by simp), joinP_cons (by simp), ih (by simp)]; simp

def Free (x : Str) : Prop := ∀ b ∈ x, b ≠ (47 : UInt8)

theorem split_join {ns : List Str} (hne : ns ≠ []) (h : ∀ x ∈ ns, Free x) : splitL 47 (joinP ns) = ns := by
  induction ns with
  | nil => exact absurd rfl hne
  | cons x r ih =>
    cases r with
    | nil => exact splitL_none (h x (by simp))
    | cons y r =>
      rw [joinP_cons (by simp), splitL_at (h x (by simp)), ih (by simp) (fun z hz => h z (by simp [hz]))]

theorem splitL_free (s : Str) : ∀ x ∈ splitL 47 s, Free x := by
  induction s with
  | nil => intro x hx; simp [splitL] at hx; subst hx; intro b hb; simp at hb
  | cons b t ih =>
    unfold splitL; split
    · intro x hx; simp at hx; rcases hx with rfl | hx
      · intro b hb; simp at hb
      · exact ih x hx
    · rename_i hb
      split
      · rename_i h r he
        intro x hx; simp at hx; rcases hx with rfl | hx
        · intro c hc; simp at hc; rcases hc with rfl | hc
          · exact hb
          · exact ih h (by rw [he]; simp) c hc
        · exact ih x (by rw [he]; simp [hx])
      · rename_i he; exact absurd he (splitL_ne 47 t)

theorem join_split (s : Str) : joinP (splitL 47 s) = s := by
  induction s with
  | nil => rfl
  | cons b t ih =>
    have hne := splitL_ne 47 t
    unfold splitL; split
    · rename_i hb; subst hb; rw [joinP_cons hne, ih]; rfl
    · split
      · rename_i h r he
        rw [he] at ih
        cases r with
        | nil => simp [joinP] at *; exact ih
        | cons y r => rw [joinP_cons (by simp)] at *; rw [List.cons_append, ih]
      · rename_i he; exact absurd he hne

theorem splitL_app (a b : Str) : splitL 47 (a ++ 47 :: b) = splitL 47 a ++ splitL 47 b := by
  have h1 := splitL_ne 47 a
  have h2 := splitL_ne 47 b
  have e : a ++ 47 :: b = joinP (splitL 47 a ++ splitL 47 b) := by rw [joinP_app h1 h2, join_split, join_split]
  rw [e, split_join (by simp [h1])]
  intro x hx; rw [List.mem_append] at hx; rcases hx with hx | hx
  · exact splitL_free a x hx
  · exact splitL_free b x hx

theorem splitL_inj {a b : Str} (h : splitL 47 a = splitL 47 b) : a = b := by rw [← join_split a, ← join_split b, h]

/-- What stands behind a directory: by names. -/
theorem belowL_names {p d : Str} (hd : d ≠ [47]) (hp : ∀ x ∈ splitL 47 p, x ≠ []) : (belowL p d = [] ∧ ¬ ∃ R, R ≠ [] ∧ splitL 47 p = splitL 47 d ++ R) ∨ (belowL p d ≠ [] ∧ splitL 47 p = splitL 47 d ++ splitL 47 (belowL p d)) := by
  by_cases h : d.length + 1 < p.length ∧ p.take d.length = d ∧ p[d.length]? = some 47
  · right
    have hb : belowL p d = p.drop (d.length + 1) := by unfold belowL; rw [if_neg hd, if_pos h]
    have hp2 : p = d ++ 47 :: p.drop (d.length + 1) := by
      obtain ⟨h1, h2, h3⟩ := h
      obtain ⟨h4, h5⟩ := List.getElem?_eq_some_iff.1 h3
      conv => lhs; rw [← List.take_append_drop d.length p, h2, List.drop_eq_getElem_cons h4, h5]
    refine ⟨by rw [hb]; intro e; have := congrArg List.length e; simp at this; omega, ?_⟩
    rw [hb]
    conv => lhs; rw [hp2]
    exact splitL_app d _
  · left
    have hb : belowL p d = [] := by unfold belowL; rw [if_neg hd, if_neg h]
    refine ⟨hb, ?_⟩
    rintro ⟨R, hR, e⟩
    apply h
    have hp2 : p = d ++ 47 :: joinP R := by
      conv => lhs; rw [← join_split p, e, joinP_app (splitL_ne 47 d) hR, join_split]
    have hr : joinP R ≠ [] := by
      intro hj
      have hx : R.head hR ∈ splitL 47 p := by rw [e]; simp
      have := hp _ hx
      cases R with
      | nil => exact hR rfl
      | cons x r =>
        simp at this
        cases r with
        | nil => simp [joinP] at hj; exact this hj
        | cons y r => rw [joinP_cons (by simp)] at hj; simp at hj
    have hl : 0 < (joinP R).length := List.length_pos_iff.2 hr
    rw [hp2]
    refine ⟨by simp; omega, by simp, by simp⟩

end Go.Proofs.YtdcbgfhkfmohiaaGreatDoor

/- Plain: trees of files, and what the edits do to them. -/
namespace Go.Proofs.YtdcbgfhkfmohiaaGreatDoor

/-- A tree: a file with its data, or a directory with names that lead to trees. -/
inductive Tree where
  | file (d : Str) : Tree
  | dir (es : List (Str × Tree)) : Tree

abbrev Ents := List (Str × Tree)
/-- Files by the names of their paths. -/
abbrev NF := List Str × Str

mutual
def filesT : Tree → List NF
  | .file d => [([], d)]
  | .dir es => filesE es
def filesE : Ents → List NF
  | [] => []
  | (x, t) :: es => (filesT t).map (fun f => (x :: f.1, f.2)) ++ filesE es
end

def findE : Ents → Str → Option Tree
  | [], _ => none
  | (y, t) :: es, x => if y = x then some t else findE es x

def sub : Tree → List Str → Option Tree
  | t, [] => some t
  | .file _, _ :: _ => none
  | .dir es, x :: r => match findE es x with
    | none => none
    | some t => sub t r

def fileAt (t : Tree) (p : List Str) : Option Str := match sub t p with
  | some (.file d) => some d
  | _ => none

mutual
def WFT : Tree → Prop
  | .file d => d.length ≤ 30
  | .dir es => es ≠ [] ∧ WFE es
def WFE : Ents → Prop
  | [] => True
  | (x, t) :: es => isNameL x false = true ∧ WFT t ∧ (∀ y ∈ es, Op.bytesLess x y.1 = true) ∧ WFE es
end

theorem findE_none {es : Ents} {x : Str} (h : ∀ y ∈ es, y.1 ≠ x) : findE es x = none := by
  induction es with
  | nil => rfl
  | cons e es ih =>
    obtain ⟨y, t⟩ := e
    rw [findE, if_neg (h (y, t) (by simp))]; exact ih fun z hz => h z (by simp [hz])
theorem findE_mem {es : Ents} {x : Str} {t : Tree} (h : findE es x = some t) : (x, t) ∈ es := by
  induction es with
  | nil => simp [findE] at h
  | cons e es ih =>
    obtain ⟨y, u⟩ := e
    rw [findE] at h
    split at h
    · rename_i e; subst e; simp at h; subst h; simp
    · simp [ih h]
theorem bl_ne {x y : Str} (h : Op.bytesLess x y = true) : x ≠ y := by intro e; subst e; rw [bl_irrefl] at h; simp at h

theorem WFE.mem {es : Ents} (h : WFE es) : ∀ e ∈ es, isNameL e.1 false = true ∧ WFT e.2 := by
  induction es with
  | nil => simp
  | cons e es ih =>
    obtain ⟨y, u⟩ := e
    unfold WFE at h
    intro z hz; simp at hz; rcases hz with rfl | hz
    · exact ⟨h.1, h.2.1⟩
    · exact ih h.2.2.2 z hz
theorem WFE.find {es : Ents} (h : WFE es) {x : Str} {t : Tree} (hm : (x, t) ∈ es) : findE es x = some t := by
  induction es with
  | nil => simp at hm
  | cons e es ih =>
    obtain ⟨y, u⟩ := e
    unfold WFE at h
    simp at hm
    rcases hm with ⟨rfl, rfl⟩ | hm
    · rw [findE, if_pos rfl]
    · rw [findE, if_neg (bl_ne (h.2.2.1 _ hm))]; exact ih h.2.2.2 hm

mutual
theorem mem_filesT : ∀ (t : Tree), WFT t → ∀ p d, (p, d) ∈ filesT t ↔ sub t p = some (.file d)
  | .file e, _, p, d => by
    unfold filesT
    cases p with
    | nil => simp [sub]; exact eq_comm
    | cons x r => simp [sub]
  | .dir es, h, p, d => by
    unfold filesT
    unfold WFT at h
    rw [mem_filesE es h.2 p d]
    cases p with
    | nil => simp [sub]
    | cons x r =>
      rw [sub]
      constructor
      · rintro ⟨x', r', t, e, h2, h3⟩; simp at e; obtain ⟨rfl, rfl⟩ := e; rw [h2]; exact h3
      · intro h1
        cases hf : findE es x with
        | none => rw [hf] at h1; simp at h1
        | some t => rw [hf] at h1; exact ⟨x, r, t, rfl, hf, h1⟩
theorem mem_filesE : ∀ (es : Ents), WFE es → ∀ p d, (p, d) ∈ filesE es ↔ ∃ x r t, p = x :: r ∧ findE es x = some t ∧ sub t r = some (.file d)
  | [], _, p, d => by simp [filesE, findE]
  | (y, u) :: es, h, p, d => by
    unfold WFE at h
    unfold filesE
    rw [List.mem_append, mem_filesE es h.2.2.2 p d, List.mem_map]
    constructor
    · rintro (⟨⟨q, d'⟩, hq, he⟩ | ⟨x, r, t, rfl, h2, h3⟩)
      · simp at he; obtain ⟨rfl, rfl⟩ := he
        exact ⟨y, q, u, rfl, by rw [findE, if_pos rfl], (mem_filesT u h.2.1 q d').1 hq⟩
      · have hm := findE_mem h2
        exact ⟨x, r, t, rfl, by rw [findE, if_neg (bl_ne (h.2.2.1 _ hm)), h2], h3⟩
    · rintro ⟨x, r, t, rfl, h2, h3⟩
      rw [findE] at h2
      split at h2
      · rename_i e; subst e; simp at h2; subst h2
        exact .inl ⟨(r, d), (mem_filesT u h.2.1 r d).2 h3, rfl⟩
      · exact .inr ⟨x, r, t, rfl, h2, h3⟩
end

def SortedN (l : List NF) : Prop := l.Pairwise fun a b => lessS a.1 b.1 = true

mutual
theorem sorted_filesT : ∀ (t : Tree), WFT t → SortedN (filesT t)
  | .file e, _ => by unfold filesT SortedN; simp
  | .dir es, h => by unfold filesT; unfold WFT at h; exact sorted_filesE es h.2
theorem sorted_filesE : ∀ (es : Ents), WFE es → SortedN (filesE es)
  | [], _ => by unfold filesE SortedN; simp
  | (y, u) :: es, h => by
    unfold WFE at h
    unfold filesE SortedN
    rw [List.pairwise_append]
    refine ⟨?_, sorted_filesE es h.2.2.2, ?_⟩
    · rw [List.pairwise_map]
      refine (sorted_filesT u h.2.1).imp ?_
      intro a b hab; simp only [lessS, if_true]; exact hab
    · intro a ha b hb
      rw [List.mem_map] at ha
      obtain ⟨f, _, rfl⟩ := ha
      obtain ⟨p, d⟩ := b
      obtain ⟨x, r, t, rfl, h2, _⟩ := (mem_filesE es h.2.2.2 p d).1 hb
      have hl := h.2.2.1 _ (findE_mem h2)
      simp only [lessS]; rw [if_neg (bl_ne hl)]; exact hl
end

/-- Two lists in order with the same files are one. -/
theorem sorted_unique {a b : List NF} (ha : SortedN a) (hb : SortedN b) (h : ∀ x, x ∈ a ↔ x ∈ b) : a = b := by
  induction a generalizing b with
  | nil => cases b with
    | nil => rfl
    | cons y b => have := (h y).2 (by simp); simp at this
  | cons x a ih => cases b with
    | nil => have := (h x).1 (by simp); simp at this
    | cons y b =>
      unfold SortedN at ha hb
      rw [List.pairwise_cons] at ha hb
      have e : x = y := by
        have h1 := (h x).1 (by simp)
        have h2 := (h y).2 (by simp)
        simp at h1 h2
        rcases h1 with h1 | h1
        · exact h1
        · rcases h2 with h2 | h2
          · exact h2.symm
          · have h3 := ls_asymm (ha.1 y h2); rw [hb.1 x h1] at h3; simp at h3
      subst e
      congr 1
      refine ih ha.2 hb.2 fun z => ?_
      have hz := h z
      simp at hz
      constructor
      · intro hm
        rcases hz.1 (.inr hm) with e | hm2
        · subst e; have := ha.1 _ hm; rw [ls_irrefl] at this; simp at this
        · exact hm2
      · intro hm
        rcases hz.2 (.inr hm) with e | hm2
        · subst e; have := hb.1 _ hm; rw [ls_irrefl] at this; simp at this
        · exact hm2

theorem fileAt_dir (es : Ents) (x : Str) (r : List Str) : fileAt (.dir es) (x :: r) = match findE es x with
    | none => none
    | some t => fileAt t r := by
  unfold fileAt; rw [sub]
  cases findE es x <;> rfl
theorem fileAt_root (es : Ents) : fileAt (.dir es) [] = none := rfl
theorem fileAt_file (d : Str) (p : List Str) : fileAt (.file d) p = if p = [] then some d else none := by
  cases p with
  | nil => rfl
  | cons x r => rfl
theorem mem_root {es : Ents} (h : WFE es) (p : List Str) (d : Str) : (p, d) ∈ filesE es ↔ fileAt (.dir es) p = some d := by
  rw [mem_filesE es h]
  cases p with
  | nil => simp [fileAt_root]
  | cons x r =>
    rw [fileAt_dir]
    constructor
    · rintro ⟨x', r', t, e, h2, h3⟩; simp at e; obtain ⟨rfl, rfl⟩ := e; rw [h2]; simp only [fileAt]; rw [h3]
    · intro h1
      cases hf : findE es x with
      | none => rw [hf] at h1; simp at h1
      | some t =>
        rw [hf] at h1; simp only [fileAt] at h1
        refine ⟨x, r, t, rfl, hf, ?_⟩
        split at h1
        · rename_i hs; simp at h1; subst h1; exact hs
        · simp at h1

def withE : Ents → Str → Tree → Ents
  | [], x, t => [(x, t)]
  | (y, u) :: es, x, t => if y = x then (x, t) :: es else if Op.bytesLess y x then (y, u) :: withE es x t else (x, t) :: (y, u) :: es
def withoutE (es : Ents) (x : Str) : Ents := es.filter fun e => !(e.1 == x)

theorem find_with (es : Ents) (x : Str) (t : Tree) (y : Str) : findE (withE es x t) y = if x = y then some t else findE es y := by
  induction es with
  | nil => simp only [withE, findE]
  | cons e es ih =>
    obtain ⟨z, u⟩ := e
    rw [withE]
    split
    · rename_i h; subst h
      rw [findE, findE]
      split <;> simp_all
    · split
      · rw [findE, ih, findE]
        by_cases h1 : z = y
        · rw [if_pos h1, if_pos h1]
          by_cases h2 : x = y
          · rename_i h _; exact absurd (h1.trans h2.symm) h
          · rw [if_neg h2]
        · rw [if_neg h1, if_neg h1]
      · rw [findE]
theorem find_without (es : Ents) (x y : Str) : findE (withoutE es x) y = if x = y then none else findE es y := by
  induction es with
  | nil => simp [withoutE, findE]
  | cons e es ih =>
    obtain ⟨z, u⟩ := e
    unfold withoutE at *
    rw [List.filter_cons]
    by_cases h : z = x
    · subst h; simp only [beq_self_eq_true, Bool.not_true, Bool.false_eq_true, if_false]
      rw [ih, findE]
      by_cases h1 : z = y
      · rw [if_pos h1, if_pos h1]
      · rw [if_neg h1, if_neg h1, if_neg h1]
    · have : (!((z, u).1 == x)) = true := by simp [h]
      rw [if_pos this, findE, findE, ih]
      by_cases h1 : z = y
      · rw [if_pos h1, if_pos h1, if_neg (fun e => h (h1.trans e.symm))]
      · rw [if_neg h1, if_neg h1]

theorem with_mem {es : Ents} {x : Str} {t : Tree} : ∀ e ∈ withE es x t, e = (x, t) ∨ e ∈ es := by
  induction es with
  | nil => intro e he; simp [withE] at he; exact .inl he
  | cons f es ih =>
    obtain ⟨z, u⟩ := f
    intro e he
    rw [withE] at he
    split at he
    · simp at he; rcases he with he | he
      · exact .inl he
      · exact .inr (by simp [he])
    · split at he
      · simp at he; rcases he with he | he
        · exact .inr (by simp [he])
        · rcases ih e he with h | h
          · exact .inl h
          · exact .inr (by simp [h])
      · simp at he; rcases he with he | he | he
        · exact .inl he
        · exact .inr (by simp [he])
        · exact .inr (by simp [he])

theorem with_wf {es : Ents} {x : Str} {t : Tree} (h : WFE es) (hx : isNameL x false = true) (ht : WFT t) : WFE (withE es x t) := by
  induction es with
  | nil => rw [withE]; unfold WFE; exact ⟨hx, ht, by simp, by unfold WFE; trivial⟩
  | cons f es ih =>
    obtain ⟨z, u⟩ := f
    unfold WFE at h
    rw [withE]
    split
    · rename_i e; subst e; unfold WFE; exact ⟨hx, ht, h.2.2.1, h.2.2.2⟩
    · rename_i hne
      split
      · rename_i hl
        unfold WFE
        refine ⟨h.1, h.2.1, ?_, ih h.2.2.2⟩
        intro e he
        rcases with_mem e he with rfl | he
        · exact hl
        · exact h.2.2.1 e he
      · rename_i hl
        have hl2 : Op.bytesLess x z = true := bl_total (by simpa using hl) hne
        unfold WFE
        refine ⟨hx, ht, ?_, ?_⟩
        · intro e he; simp at he; rcases he with rfl | he
          · exact hl2
          · exact bl_trans hl2 (h.2.2.1 e he)
        · unfold WFE; exact h
theorem filter_wf {es : Ents} (h : WFE es) (q : Str × Tree → Bool) : WFE (es.filter q) := by
  induction es with
  | nil => exact h
  | cons f es ih =>
    obtain ⟨z, u⟩ := f
    unfold WFE at h
    rw [List.filter_cons]
    split
    · unfold WFE
      exact ⟨h.1, h.2.1, fun e he => h.2.2.1 e (List.mem_filter.1 he).1, ih h.2.2.2⟩
    · exact ih h.2.2.2
theorem without_wf {es : Ents} (h : WFE es) (x : Str) : WFE (withoutE es x) := filter_wf h _
theorem with_ne {es : Ents} {x : Str} {t : Tree} : withE es x t ≠ [] := by
  cases es with
  | nil => simp [withE]
  | cons f es => obtain ⟨z, u⟩ := f; rw [withE]; split
                 · simp
                 · split <;> simp

end Go.Proofs.YtdcbgfhkfmohiaaGreatDoor

/- Plain: put and remove in trees. -/
namespace Go.Proofs.YtdcbgfhkfmohiaaGreatDoor

def belowE (es : Ents) (x : Str) : Ents := match findE es x with
  | some (.dir es') => es'
  | _ => []

def putE : Ents → List Str → Tree → Ents
  | es, [], _ => es
  | es, [x], n => withE es x n
  | es, x :: y :: r, n => withE es x (.dir (putE (belowE es x) (y :: r) n))

def removeE : Ents → List Str → Ents
  | es, [] => es
  | es, [x] => withoutE es x
  | es, x :: y :: r => if removeE (belowE es x) (y :: r) = [] then withoutE es x else withE es x (.dir (removeE (belowE es x) (y :: r)))

inductive Place where
  | free | blocked | atFile | atDir
  deriving DecidableEq

/-- What stands where the names lead to. -/
def look : Option Tree → List Str → Place
  | none, _ => .free
  | some (.file _), [] => .atFile
  | some (.file _), _ :: _ => .blocked
  | some (.dir _), [] => .atDir
  | some (.dir es), x :: r => look (findE es x) r

theorem belowE_wf {es : Ents} (h : WFE es) (x : Str) : WFE (belowE es x) := by
  unfold belowE
  split
  · rename_i es' he
    have := (h.mem _ (findE_mem he)).2
    unfold WFT at this; exact this.2
  · unfold WFE; trivial

theorem fileAt_below {es : Ents} {x : Str} (h : ∀ d, findE es x ≠ some (.file d)) (r : List Str) (hr : r ≠ []) : fileAt (.dir (belowE es x)) r = fileAt (.dir es) (x :: r) := by
  rw [fileAt_dir]
  unfold belowE
  cases hf : findE es x with
  | none =>
    cases r with
    | nil => exact absurd rfl hr
    | cons y r => simp [fileAt_dir, findE]
  | some t => cases t with
    | file d => exact absurd hf (h d)
    | dir es' => rfl

/-- No file stands on the way (at the end there may be one). -/
theorem look_step {es : Ents} {x y : Str} {r : List Str} (h : look (some (.dir es)) (x :: y :: r) ≠ .blocked) : (∀ d, findE es x ≠ some (.file d)) ∧ look (some (.dir (belowE es x))) (y :: r) ≠ .blocked := by
  rw [look] at h
  unfold belowE
  cases hf : findE es x with
  | none => exact ⟨by simp, by simp [look, findE]⟩
  | some t => cases t with
    | file d => rw [hf, look] at h; exact absurd rfl h
    | dir es' => rw [hf] at h; exact ⟨by simp, h⟩

theorem prefix_cons {x y : Str} {q p : List Str} : x :: q <+: y :: p ↔ x = y ∧ q <+: p := by
  constructor
  · rintro ⟨t, ht⟩; simp at ht; exact ⟨ht.1, ⟨t, ht.2⟩⟩
  · rintro ⟨rfl, t, ht⟩; exact ⟨t, by simp [ht]⟩

theorem fileAt_put {q : List Str} : ∀ {es : Ents} {n : Tree}, q ≠ [] → look (some (.dir es)) q ≠ .blocked → ∀ p, fileAt (.dir (putE es q n)) p = if q <+: p then fileAt n (p.drop q.length) else fileAt (.dir es) p := by
  induction q with
  | nil => intro es n h; exact absurd rfl h
  | cons x r ih =>
    intro es n _ hb p
    cases r with
    | nil =>
      rw [putE]
      cases p with
      | nil => rw [if_neg (by simp)]; rfl
      | cons y p =>
        rw [fileAt_dir, find_with, fileAt_dir]
        by_cases e : x = y
        · subst e; rw [if_pos rfl, if_pos (by rw [prefix_cons]; simp)]; rfl
        · rw [if_neg e, if_neg (by rw [prefix_cons]; exact fun h => e h.1)]
    | cons y r =>
      obtain ⟨h1, h2⟩ := look_step hb
      rw [putE]
      cases p with
      | nil => rw [if_neg (by simp)]; rfl
      | cons z p =>
        rw [fileAt_dir, find_with]
        by_cases e : x = z
        · subst e
          rw [if_pos rfl]
          simp only
          rw [ih (by simp) h2 p]
          by_cases hp : y :: r <+: p
          · rw [if_pos hp, if_pos (by rw [prefix_cons]; exact ⟨rfl, hp⟩)]; rfl
          · rw [if_neg hp, if_neg (by rw [prefix_cons]; exact fun h => hp h.2)]
            by_cases hpn : p = []
            · subst hpn; rw [fileAt_root, fileAt_dir]
              cases hf : findE es x with
              | none => rfl
              | some t => cases t with
                | file d => exact absurd hf (h1 d)
                | dir es' => rfl
            · exact fileAt_below h1 p hpn
        · rw [if_neg e, if_neg (by rw [prefix_cons]; exact fun h => e h.1), fileAt_dir]

theorem put_wf {q : List Str} : ∀ {es : Ents} {n : Tree}, WFE es → (∀ x ∈ q, isNameL x false = true) → WFT n → WFE (putE es q n) ∧ (q ≠ [] → putE es q n ≠ []) := by
  induction q with
  | nil => intro es n h _ _; exact ⟨h, fun h => absurd rfl h⟩
  | cons x r ih =>
    intro es n h hq hn
    cases r with
    | nil => rw [putE]; exact ⟨with_wf h (hq x (by simp)) hn, fun _ => with_ne⟩
    | cons y r =>
      rw [putE]
      have := ih (es := belowE es x) (belowE_wf h x) (fun z hz => hq z (by simp [hz])) hn
      exact ⟨with_wf h (hq x (by simp)) (by unfold WFT; exact ⟨this.2 (by simp), this.1⟩), fun _ => with_ne⟩

/-- A tree in order has a file, if it is no empty directory. -/
theorem WFT.some : ∀ (t : Tree), WFT t → ∃ p d, fileAt t p = some d
  | .file d, _ => ⟨[], d, rfl⟩
  | .dir [], h => by unfold WFT at h; exact absurd rfl h.1
  | .dir ((x, t) :: es), h => by
    unfold WFT WFE at h
    obtain ⟨p, d, hp⟩ := WFT.some t h.2.2.1
    exact ⟨x :: p, d, by rw [fileAt_dir, findE, if_pos rfl]; exact hp⟩

theorem WFE.empty {es : Ents} (h : WFE es) (h0 : ∀ p, fileAt (.dir es) p = none) : es = [] := by
  cases es with
  | nil => rfl
  | cons f es =>
    obtain ⟨x, t⟩ := f
    have ht : WFT t := (h.mem (x, t) (by simp)).2
    obtain ⟨p, d, hp⟩ := WFT.some t ht
    have := h0 (x :: p)
    rw [fileAt_dir, findE, if_pos rfl] at this
    simp only at this; rw [hp] at this; simp at this

theorem remove_wf {q : List Str} : ∀ {es : Ents}, WFE es → (∀ x ∈ q, isNameL x false = true) → WFE (removeE es q) := by
  induction q with
  | nil => intro es h _; exact h
  | cons x r ih =>
    intro es h hq
    cases r with
    | nil => rw [removeE]; exact without_wf h x
    | cons y r =>
      rw [removeE]
      have := ih (es := belowE es x) (belowE_wf h x) (fun z hz => hq z (by simp [hz]))
      split
      · exact without_wf h x
      · rename_i hne; exact with_wf h (hq x (by simp)) (by unfold WFT; exact ⟨hne, this⟩)

theorem fileAt_remove {q : List Str} : ∀ {es : Ents}, q ≠ [] → look (some (.dir es)) q ≠ .blocked → ∀ p, fileAt (.dir (removeE es q)) p = if q <+: p then none else fileAt (.dir es) p := by
  induction q with
  | nil => intro es h; exact absurd rfl h
  | cons x r ih =>
    intro es _ hb p
    cases r with
    | nil =>
      rw [removeE]
      cases p with
      | nil => rw [if_neg (by simp)]; rfl
      | cons y p =>
        rw [fileAt_dir, find_without, fileAt_dir]
        by_cases e : x = y
        · subst e; rw [if_pos rfl, if_pos (by rw [prefix_cons]; simp)]
        · rw [if_neg e, if_neg (by rw [prefix_cons]; exact fun h => e h.1)]
    | cons y r =>
      obtain ⟨h1, h2⟩ := look_step hb
      have ih := ih (by simp) h2
      rw [removeE]
      cases p with
      | nil =>
        have hn : ¬ (x :: y :: r <+: ([] : List Str)) := by simp
        rw [if_neg hn]; split <;> rfl
      | cons z p =>
        have key : ∀ es', (∀ p, fileAt (.dir es') p = if y :: r <+: p then none else fileAt (.dir (belowE es x)) p) → x = z → fileAt (.dir es') p = if x :: y :: r <+: z :: p then none else fileAt (.dir es) (z :: p) := by
          intro es' hes e
          subst e
          rw [hes p]
          by_cases hp : y :: r <+: p
          · rw [if_pos hp, if_pos (by rw [prefix_cons]; exact ⟨rfl, hp⟩)]
          · rw [if_neg hp, if_neg (by rw [prefix_cons]; exact fun h => hp h.2)]
            by_cases hpn : p = []
            · subst hpn; rw [fileAt_root, fileAt_dir]
              cases hf : findE es x with
              | none => rfl
              | some t => cases t with
                | file d => exact absurd hf (h1 d)
                | dir es' => rfl
            · exact fileAt_below h1 p hpn
        split
        · rename_i he
          rw [fileAt_dir, find_without]
          by_cases e : x = z
          · rw [if_pos e]
            rw [he] at ih
            have := key [] ih e
            rw [← this]
            cases p with
            | nil => rfl
            | cons a p => rw [fileAt_dir]; rfl
          · rw [if_neg e, if_neg (by rw [prefix_cons]; exact fun h => e h.1), fileAt_dir]
        · rw [fileAt_dir, find_with]
          by_cases e : x = z
          · rw [if_pos e]; exact key _ ih e
          · rw [if_neg e, if_neg (by rw [prefix_cons]; exact fun h => e h.1), fileAt_dir]

/-- What look tells, by files. -/
theorem look_files : ∀ (q : List Str) (t : Tree), WFT t →
    (look (some t) q = .atFile ↔ ∃ d, fileAt t q = some d) ∧ (look (some t) q = .atDir ↔ ∃ R d, R ≠ [] ∧ fileAt t (q ++ R) = some d) ∧ (look (some t) q = .blocked ↔ ∃ P R d, R ≠ [] ∧ q = P ++ R ∧ fileAt t P = some d) := by
  intro q
  induction q with
  | nil =>
    intro t ht
    cases t with
    | file d =>
      refine ⟨by simp [look, fileAt_file], ?_, ?_⟩
      · simp [look]; intro R hR d'; rw [fileAt_file, if_neg hR]; simp
      · simp [look]; rintro P R hR h1 h2; exact absurd h2 hR
    | dir es =>
      refine ⟨by simp [look, fileAt_root], ?_, ?_⟩
      · simp only [look, true_iff, List.nil_append]
        obtain ⟨p, d, hp⟩ := WFT.some _ ht
        refine ⟨p, d, ?_, hp⟩
        intro e; subst e; rw [fileAt_root] at hp; simp at hp
      · simp [look]; rintro P R hR h1 h2; exact absurd h2 hR
  | cons x r ih =>
    intro t ht
    cases t with
    | file d =>
      refine ⟨by simp [look, fileAt_file], ?_, ?_⟩
      · simp [look, fileAt_file]
      · simp only [look, true_iff]
        exact ⟨[], x :: r, d, by simp, rfl, rfl⟩
    | dir es =>
      unfold WFT at ht
      rw [look]
      cases hf : findE es x with
      | none =>
        refine ⟨?_, ?_, ?_⟩
        · simp [look, fileAt_dir, hf]
        · simp [look, fileAt_dir, hf]
        · simp only [look, reduceCtorEq, false_iff, not_exists, not_and]
          intro P R d hR he
          cases P with
          | nil => rw [fileAt_root]; simp
          | cons y P => simp at he; rw [← he.1, fileAt_dir, hf]; simp
      | some u =>
        have hu : WFT u := (ht.2.mem _ (findE_mem hf)).2
        obtain ⟨i1, i2, i3⟩ := ih u hu
        refine ⟨?_, ?_, ?_⟩
        · rw [i1, fileAt_dir, hf]
        · rw [i2]
          simp only [List.cons_append, fileAt_dir, hf]
        · rw [i3]
          constructor
          · rintro ⟨P, R, d, hR, he, hd⟩
            exact ⟨x :: P, R, d, hR, by rw [he]; rfl, by rw [fileAt_dir, hf]; exact hd⟩
          · rintro ⟨P, R, d, hR, he, hd⟩
            cases P with
            | nil => rw [fileAt_root] at hd; simp at hd
            | cons y P =>
              simp at he
              rw [← he.1, fileAt_dir, hf] at hd
              exact ⟨P, R, d, hR, he.2, hd⟩

end Go.Proofs.YtdcbgfhkfmohiaaGreatDoor
