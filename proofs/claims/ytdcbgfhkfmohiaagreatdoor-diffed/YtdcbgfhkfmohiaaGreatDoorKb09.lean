/- Frames of the store's inner calls; hold, letGo. -/
import Derived.Test.YtdcbgfhkfmohiaaGreatDoorKb08
import Derived.Deep.MidRow
import Derived.BigQuiet
import Derived.Deep.RegionHeld3
namespace Go.Proofs.YtdcbgfhkfmohiaaGreatDoor
open Go.RowKit

/-- What may have become of a block: nothing, its users if R, or a register. -/
def Turned (R : Nat → Prop) (B : Bank) (w w' : World) (b : Nat) : Prop :=
  w'.heap[b]? = w.heap[b]? ∨ (R b ∧ ((∃ u u' d, FileAt w b u d ∧ FileAt w' b u' d) ∨ (∃ u u' vs, DirAt w b u vs ∧ DirAt w' b u' vs))) ∨ b = B.sb ∨ b = B.rs ∨ b = B.rd ∨ b = B.rf

structure Step (R : Nat → Prop) (B : Bank) (w w' : World) : Prop where
  os : w'.os = w.os
  tape : w'.tape = w.tape
  output : w'.output = w.output
  size : w.heap.size ≤ w'.heap.size
  blk : ∀ b, b < w.heap.size → Turned R B w w' b

theorem Step.refl (R : Nat → Prop) (B : Bank) (w : World) : Step R B w w := ⟨rfl, rfl, rfl, Nat.le_refl _, fun _ _ => .inl rfl⟩
theorem Step.mono {R R' : Nat → Prop} {B : Bank} {w w' : World} (h : Step R B w w') (hR : ∀ b, R b → R' b) : Step R' B w w' :=
  ⟨h.os, h.tape, h.output, h.size, fun b hb => by
    rcases h.blk b hb with h | ⟨h1, h2⟩ | h
    · exact .inl h
    · exact .inr (.inl ⟨hR b h1, h2⟩)
    · exact .inr (.inr h)⟩
theorem Step.trans {R : Nat → Prop} {B : Bank} {w w1 w2 : World} (h : Step R B w w1) (k : Step R B w1 w2) : Step R B w w2 :=
  ⟨k.os.trans h.os, k.tape.trans h.tape, k.output.trans h.output, Nat.le_trans h.size k.size, fun b hb => by
    rcases h.blk b hb with h1 | ⟨hr, h1⟩ | h1
    · rcases k.blk b (Nat.lt_of_lt_of_le hb h.size) with h2 | ⟨hr2, h2⟩ | h2
      · exact .inl (h2.trans h1)
      · refine .inr (.inl ⟨hr2, ?_⟩)
        rcases h2 with ⟨u, u', d, a1, a2⟩ | ⟨u, u', vs, a1, a2⟩
        · exact .inl ⟨u, u', d, h1.symm.trans a1, a2⟩
        · exact .inr ⟨u, u', vs, ⟨a1.1, h1.symm.trans a1.2⟩, a2⟩
      · exact .inr (.inr h2)
    · rcases k.blk b (Nat.lt_of_lt_of_le hb h.size) with h2 | ⟨hr2, h2⟩ | h2
      · refine .inr (.inl ⟨hr, ?_⟩)
        rcases h1 with ⟨u, u', d, a1, a2⟩ | ⟨u, u', vs, a1, a2⟩
        · exact .inl ⟨u, u', d, a1, h2.trans a2⟩
        · exact .inr ⟨u, u', vs, a1, ⟨a2.1, h2.trans a2.2⟩⟩
      · refine .inr (.inl ⟨hr, ?_⟩)
        rcases h1 with ⟨u, u', d, a1, a2⟩ | ⟨u, u', vs, a1, a2⟩
        · rcases h2 with ⟨v, v', d', b1, b2⟩ | ⟨v, v', vs', b1, b2⟩
          · have := (fileAt_inj a2 b1).2; subst this; exact .inl ⟨u, v', d, a1, b2⟩
          · exact (file_not_dir a2 b1).elim
        · rcases h2 with ⟨v, v', d', b1, b2⟩ | ⟨v, v', vs', b1, b2⟩
          · exact (file_not_dir b1 a2).elim
          · have := (dirAt_inj a2 b1).2; subst this; exact .inr ⟨u, v', vs, a1, b2⟩
      · exact .inr (.inr h2)
    · exact .inr (.inr h1)⟩

structure SameB (B B' : Bank) : Prop where
  sb : B'.sb = B.sb
  rs : B'.rs = B.rs
  rd : B'.rd = B.rd
  rf : B'.rf = B.rf
  rr : B'.rr = B.rr
  room : B'.room = B.room
  made : B'.made = B.made
  ss : B'.ss = B.ss
theorem SameB.refl (B : Bank) : SameB B B := ⟨rfl, rfl, rfl, rfl, rfl, rfl, rfl, rfl⟩
theorem SameB.trans {A B C : Bank} (h : SameB A B) (k : SameB B C) : SameB A C := ⟨k.sb.trans h.sb, k.rs.trans h.rs, k.rd.trans h.rd, k.rf.trans h.rf, k.rr.trans h.rr, k.room.trans h.room, k.made.trans h.made, k.ss.trans h.ss⟩
theorem Step.back {R : Nat → Prop} {B B' : Bank} {w w' : World} (h : Step R B' w w') (hs : SameB B B') : Step R B w w' :=
  ⟨h.os, h.tape, h.output, h.size, fun b hb => by have := h.blk b hb; unfold Turned at *; rw [hs.sb, hs.rs, hs.rd, hs.rf] at this; exact this⟩

theorem Step.of_below {R : Nat → Prop} {B : Bank} {w w' : World} (h : Below w.heap.size w w') : Step R B w w' := ⟨h.os, h.tape, h.output, h.size, fun b hb => .inl (h.block b hb)⟩
theorem Step.of_users {R : Nat → Prop} {B : Bank} {w w' : World} (hB : BankAt w B) {t : Tree} (ht : B.has t) {u : Nat} (hs : Set1 w w' (B.ad t) (NodeO B.ad t u)) (hR : R (B.ad t)) : Step R B w w' :=
  ⟨hs.os, hs.tape, hs.output, by rw [hs.size]; exact Nat.le_refl _, fun b _ => by
    by_cases e : b = B.ad t
    · subst e
      refine .inr (.inl ⟨hR, ?_⟩)
      cases t with
      | file d => exact .inl ⟨_, _, d, hB.files d ht, hs.here⟩
      | dir es => exact .inr ⟨_, _, _, hB.dirs es ht, ⟨(hB.dirs es ht).1, hs.here⟩⟩
    · exact .inl (hs.other b e)⟩
theorem Step.of_reg {R : Nat → Prop} {B : Bank} {w w' : World} {r : Nat} {o : Obj} (hs : Set1 w w' r o) (hr : r = B.sb ∨ r = B.rs ∨ r = B.rd ∨ r = B.rf) : Step R B w w' :=
  ⟨hs.os, hs.tape, hs.output, by rw [hs.size]; exact Nat.le_refl _, fun b _ => by
    by_cases e : b = r
    · subst e; exact .inr (.inr hr)
    · exact .inl (hs.other b e)⟩

section
variable {R : Nat → Prop} {B : Bank} {w w' : World}

/-- Not one of the store's own four blocks. -/
theorem BankAt.own4 (h : BankAt w B) {b : Nat} {cs : Array Value} {t : TypeId} (hb : w.heap[b]? = some (.cells cs t (0, 0))) (ht : t ≠ 87) : ¬ (b = B.sb ∨ b = B.rs ∨ b = B.rd ∨ b = B.rf) := by
  obtain ⟨m1, c1, h1, _⟩ := h.snaps
  obtain ⟨m2, c2, h2, _⟩ := h.dmap
  obtain ⟨m3, c3, h3, _⟩ := h.fmap
  have h4 := h.store
  rintro (e | e | e | e) <;> rw [e] at hb
  · rw [h4] at hb; simp at hb; exact ht hb.2.symm
  · rw [h1] at hb; simp at hb
  · rw [h2] at hb; simp at hb
  · rw [h3] at hb; simp at hb

theorem Step.dirAt (h : Step R B w w') (hB : BankAt w B) {b : Nat} {u : Int} {vs : List (Str × Value)} (hd : DirAt w b u vs) : ∃ u', DirAt w' b u' vs ∧ (u' = u ∨ R b) := by
  rcases h.blk b hd.lt with h1 | ⟨hr, h1⟩ | h1
  · exact ⟨u, ⟨hd.1, h1.trans hd.2⟩, .inl rfl⟩
  · rcases h1 with ⟨v, v', d, a1, a2⟩ | ⟨v, v', vs', a1, a2⟩
    · exact (file_not_dir a1 hd).elim
    · have := (dirAt_inj a1 hd).2; subst this; exact ⟨v', a2, .inr hr⟩
  · exact (hB.own4 hd.2 (by decide) h1).elim
theorem Step.fileAt (h : Step R B w w') (hB : BankAt w B) {b : Nat} {u : Int} {d : Str} (hd : FileAt w b u d) : ∃ u', FileAt w' b u' d ∧ (u' = u ∨ R b) := by
  rcases h.blk b hd.lt with h1 | ⟨hr, h1⟩ | h1
  · exact ⟨u, h1.trans hd, .inl rfl⟩
  · rcases h1 with ⟨v, v', d', a1, a2⟩ | ⟨v, v', vs', a1, a2⟩
    · have := (fileAt_inj a1 hd).2; subst this; exact ⟨v', a2, .inr hr⟩
    · exact (file_not_dir hd a1).elim
  · exact (hB.own4 hd (by decide) h1).elim
theorem Step.other (h : Step R B w w') (hB : BankAt w B) {b : Nat} {cs : Array Value} {t : TypeId} (hb : w.heap[b]? = some (.cells cs t (0, 0))) (h1 : t ≠ 87) (h2 : t ≠ 135) (h3 : t ≠ 149) : w'.heap[b]? = w.heap[b]? := by
  rcases h.blk b (Array.getElem?_eq_some_iff.1 hb).1 with h4 | ⟨_, h4⟩ | h4
  · exact h4
  · rcases h4 with ⟨v, v', d', a1, a2⟩ | ⟨v, v', vs', a1, a2⟩
    · unfold FileAt at a1; rw [hb] at a1; simp at a1; exact (h2 a1.2).elim
    · have := a1.2; rw [hb] at this; simp at this; exact (h3 this.2).elim
  · exact (hB.own4 hb h1 h4).elim
end

/-- Where a tree's nodes lie: a node with users, or an old one, is a kept one. -/
def QK (N : Nat) (B : Bank) (b : Nat) (u : Int) : Prop := (u ≠ 0 ∨ b < N) → B.reg b

/-- From one state of the store to another that keeps more. -/
structure Grow (N : Nat) (w : World) (B : Bank) (w' : World) (B' : Bank) : Prop where
  same : SameB B B'
  at' : BankAt w' B'
  old : ∀ t, B.has t → B'.has t ∧ B'.ad t = B.ad t ∧ B.us t ≤ B'.us t
  new : ∀ t, B'.has t → B.has t ∨ N ≤ B'.ad t
  step : Step B'.reg B w w'

theorem Grow.refl {N : Nat} {w : World} {B : Bank} (h : BankAt w B) : Grow N w B w B := ⟨SameB.refl B, h, fun _ ht => ⟨ht, rfl, Nat.le_refl _⟩, fun _ ht => .inl ht, Step.refl _ _ _⟩
theorem Grow.reg {N : Nat} {w w' : World} {B B' : Bank} (h : Grow N w B w' B') : ∀ b, B.reg b → B'.reg b := by
  rintro b ⟨t, h1, h2⟩
  obtain ⟨a, c, _⟩ := h.old t h1
  exact ⟨t, a, c.trans h2⟩
theorem Grow.trans {N : Nat} {w w1 w2 : World} {B B1 B2 : Bank} (h : Grow N w B w1 B1) (k : Grow N w1 B1 w2 B2) : Grow N w B w2 B2 where
  same := h.same.trans k.same
  at' := k.at'
  old := fun t ht => by
    obtain ⟨a1, a2, a3⟩ := h.old t ht
    obtain ⟨b1, b2, b3⟩ := k.old t a1
    exact ⟨b1, b2.trans a2, Nat.le_trans a3 b3⟩
  new := fun t ht => by
    rcases k.new t ht with h1 | h1
    · rcases h.new t h1 with h2 | h2
      · exact .inl h2
      · right; rw [(k.old t h1).2.1]; exact h2
    · exact .inr h1
  step := (h.step.mono k.reg).trans (k.step.back h.same)

theorem Grow.rep {N : Nat} {w w' : World} {B B' : Bank} (h : Grow N w B w' B') (hB : BankAt w B) {v : Value} {t : Tree} (hr : RepT w (QK N B) v t) : RepT w' (QK N B') v t :=
  hr.keep (fun b u vs hd hq => by
    obtain ⟨u', h1, h2⟩ := h.step.dirAt hB hd
    refine ⟨u', h1, fun hx => ?_⟩
    rcases h2 with rfl | h2
    · exact h.reg b (hq hx)
    · exact h2) (fun b u d hd hq => by
    obtain ⟨u', h1, h2⟩ := h.step.fileAt hB hd
    refine ⟨u', h1, fun hx => ?_⟩
    rcases h2 with rfl | h2
    · exact h.reg b (hq hx)
    · exact h2)
theorem Grow.reps {N : Nat} {w w' : World} {B B' : Bank} (h : Grow N w B w' B') (hB : BankAt w B) {vs : List (Str × Value)} {es : Ents} (hr : RepE w (QK N B) vs es) : RepE w' (QK N B') vs es := by
  induction vs generalizing es with
  | nil => cases hr; exact .nil
  | cons f vs ih => cases hr with
    | cons h1 h2 => exact .cons (h.rep hB h1) (ih h2)

theorem setCell_set1 {w : World} {b i : Nat} {cs : Array Value} {t : TypeId} (h : w.heap[b]? = some (.cells cs t (0, 0))) (u : Value) : Set1 w (w.setCell ⟨b, i, none⟩ u) b (.cells (cs.setIfInBounds i u) t (0, 0)) :=
  ⟨rfl, rfl, rfl, by simp [World.setCell], setCell_blk h u, fun k hk => Below.heap_setCell _ _ _ _ hk⟩
theorem users_set1 {w : World} {B : Bank} (hB : BankAt w B) {t : Tree} (ht : B.has t) (u : Nat) : Set1 w (w.setCell ⟨B.ad t, 0, none⟩ (.int .i64 u)) (B.ad t) (NodeO B.ad t u) := by
  have h := hB.nodeO ht
  cases t with
  | file d => exact setCell_set1 h _
  | dir es => exact setCell_set1 h _
theorem users_cell {w : World} {B : Bank} (hB : BankAt w B) {t : Tree} (ht : B.has t) : w.cell? ⟨B.ad t, 0, none⟩ = some (.int .i64 (B.us t)) ∧ w.frozen? ⟨B.ad t, 0, none⟩ = false := by
  have h := hB.nodeO ht
  cases t with
  | file d => exact ⟨(blk_cell h 0).trans rfl, blk_free h 0⟩
  | dir es => exact ⟨(blk_cell h 0).trans rfl, blk_free h 0⟩

theorem hold_any (b : Nat) (u : Nat) (w : World) (h : w.cell? ⟨b, 0, none⟩ = some (.int .i64 u)) (hf : w.frozen? ⟨b, 0, none⟩ = false) (hu : u < 4611686018427387904) :
    Calls Tryz.prog 92 #[.pointer (some ⟨b, 0, none⟩)] w fun e w' => e = .returned (.tuple #[]) ∧ w' = w.setCell ⟨b, 0, none⟩ (.int .i64 (u + 1 : Nat)) := by
  go_enter Tryz.func92, Tryz.ntmps92
  go_wp2
  go_end0
  exact ⟨rfl, rfl⟩

theorem letGo_any (b : Nat) (u : Nat) (w : World) (h : w.cell? ⟨b, 0, none⟩ = some (.int .i64 u)) (hf : w.frozen? ⟨b, 0, none⟩ = false) (hu : u < 4611686018427387904) (h1 : 1 ≤ u) :
    Calls Tryz.prog 212 #[.pointer (some ⟨b, 0, none⟩)] w fun e w' => e = .returned (.int .i64 (u - 1 : Nat)) ∧ w' = w.setCell ⟨b, 0, none⟩ (.int .i64 (u - 1 : Nat)) := by
  go_enter Tryz.func212, Tryz.ntmps212
  go_wp2
  go_ret
  refine ⟨?_, ?_⟩
  · rw [show ((u - 1 : Nat) : Int) = (u : Int) - 1 from by omega]; rfl
  · rw [show ((u - 1 : Nat) : Int) = (u : Int) - 1 from by omega]

end Go.Proofs.YtdcbgfhkfmohiaaGreatDoor

/- keepFile. -/
namespace Go.Proofs.YtdcbgfhkfmohiaaGreatDoor
open Go.RowKit

/-- What keeping a tree answers: the one node that stands for it. -/
def KeepOut1 (N : Nat) (w : World) (B : Bank) (t : Tree) (w' : World) (B' : Bank) : Prop :=
  Grow N w B w' B' ∧ Exact B' (fun _ => 0) ∧ B'.has t ∧ (∀ s, B'.has s → B'.us s = 0 → s = t ∨ (B.has s ∧ B.us s = 0)) ∧ B'.ds.length ≤ B.ds.length + (dirsT t).length

theorem zeroFile (w : World) : (zeroValue 131).run Tryz.prog w = .ok (.pointer none) w := by kernel_rfl
theorem zeroDir (w : World) : (zeroValue 89).run Tryz.prog w = .ok (.pointer none) w := by kernel_rfl

theorem BankAt.below {w w' : World} {B : Bank} (h : BankAt w B) (hb : Below w.heap.size w w') : BankAt w' B := by
  have key : ∀ (k : Nat) (o : Obj), w.heap[k]? = some o → w'.heap[k]? = some o := fun k o hk => (hb.block k (Array.getElem?_eq_some_iff.1 hk).1).trans hk
  obtain ⟨m1, c1, h1, k1⟩ := h.snaps
  obtain ⟨m2, c2, h2, k2⟩ := h.dmap
  obtain ⟨m3, c3, h3, k3⟩ := h.fmap
  exact ⟨key _ _ h.store, ⟨m1, c1, key _ _ h1, k1⟩, ⟨m2, c2, key _ _ h2, k2⟩, ⟨m3, c3, key _ _ h3, k3⟩, h.apart, fun d hd => key _ _ (h.files d hd), fun es he => ⟨(h.dirs es he).1, key _ _ (h.dirs es he).2⟩, h.closed, h.roots, h.ndD, h.ndF, h.ndS⟩
theorem Grow.below {N : Nat} {w w1 w2 : World} {B B1 : Bank} (h : Grow N w B w1 B1) (hb : Below w1.heap.size w1 w2) : Grow N w B w2 B1 :=
  ⟨h.same, h.at'.below hb, h.old, h.new, h.step.trans (Step.of_below hb)⟩
theorem below_like {w w' : World} (h : w'.os = w.os) (h1 : w'.tape = w.tape) (h2 : w'.output = w.output) (h3 : w'.heap = w.heap) : Below w.heap.size w w' := ⟨h, h1, h2, by rw [h3]; exact Nat.le_refl _, fun _ _ => by rw [h3]⟩

theorem reg_file {w : World} {B : Bank} (hB : BankAt w B) {b : Nat} {u : Int} {d : Str} (hf : FileAt w b u d) (hr : B.reg b) : d ∈ B.fs ∧ B.ad (.file d) = b := by
  obtain ⟨t, h1, h2⟩ := hr
  cases t with
  | file d' =>
    have := hB.files d' h1
    rw [h2] at this
    have e := (fileAt_inj hf this).2
    subst e
    exact ⟨h1, h2⟩
  | dir es =>
    have := hB.dirs es h1
    rw [h2] at this
    exact (file_not_dir hf this).elim

set_option maxHeartbeats 2000000 in
theorem keepFile_any (N : Nat) (B : Bank) (b : Nat) (u : Int) (d : Str) (w : World) (hB : BankAt w B) (hx : Exact B (fun _ => 0)) (hf : FileAt w b u d) (hq : QK N B b u) :
    Calls Tryz.prog 162 #[ptrV B.sb, ptrV b] w fun e w' => ∃ B', KeepOut1 N w B (.file d) w' B' ∧ e = .returned (ptrV (B'.ad (.file d))) := by
  obtain ⟨m, clock, hm, hh, hF⟩ := hB.find_file d
  have s4 : w.cell? ⟨B.sb, 4, none⟩ = some (.map (some B.rf)) := (blk_cell hB.store 4).trans rfl
  have f1 : w.cell? ⟨b, 1, none⟩ = some (SV d) := (blk_cell hf 1).trans rfl
  by_cases hd : d ∈ B.fs
  · have hl := run_lookup_in Tryz.underlying84 (w := w.drew) hm (hF w.drew) hd
    have R : Hid (∀ W, Below w.heap.size w W → KeepOut1 N w B (.file d) W B) := fun W hW => ⟨(Grow.refl hB).below hW, hx, hd, fun s hs h0 => .inr ⟨hs, h0⟩, Nat.le_add_right _ _⟩
    clear hB hf hF hh hm hx hq hd
    go_enter Tryz.func162, Tryz.ntmps162
    go_wp2
    go_region
    all_goals
      go_wp2
      go_ret
      exact ⟨B, R.out _ (below_like rfl rfl rfl rfl), rfl⟩
  · have hl := run_lookup_out Tryz.underlying84 (w := w.drew) hm (hF w.drew) hd (zeroFile _)
    obtain ⟨w2, hu, hs⟩ := run_mapUpdate_new Tryz.underlying84 (w := w.drew.drew) hm (hF w.drew.drew) hd (ptrV b)
    have hu0 : u = 0 := Classical.byContradiction fun h => hd (reg_file hB hf (hq (.inl h))).1
    have hN : N ≤ b := by
      by_cases h : b < N
      · exact absurd (reg_file hB hf (hq (.inr h))).1 hd
      · omega
    subst hu0
    have hb0 : Below w.heap.size w w.drew.drew := below_like rfl rfl rfl rfl
    have hB0 := hB.below hb0
    have hs' : Set1 w.drew.drew w2 B.rf _ := hs
    have hB2 := hB0.addFile hd (show FileAt w.drew.drew b 0 d from hf) hm hh hs'
    have hne : ∀ s, B.has s → s ≠ .file d := fun s hs e => hd (by subst e; exact hs)
    have R : Hid (∀ W, Below w2.heap.size w2 W → KeepOut1 N w B (.file d) W { B with fs := B.fs ++ [d], ad := upd B.ad (.file d) b, us := upd B.us (.file d) 0 }) := by
      intro W hW
      refine ⟨Grow.below ⟨⟨rfl, rfl, rfl, rfl, rfl, rfl, rfl, rfl⟩, hB2, ?_, ?_, ?_⟩ hW, hx.addFile hB hd rfl b, ?_, ?_, Nat.le_add_right _ _⟩
      · intro t ht
        refine ⟨?_, upd_other (hne t ht), ?_⟩
        · cases t with
          | file y => exact List.mem_append_left _ ht
          | dir y => exact ht
        · show B.us t ≤ upd B.us (.file d) 0 t
          rw [upd_other (hne t ht)]; exact Nat.le_refl _
      · intro t ht
        by_cases e : t = .file d
        · right; subst e; show N ≤ upd B.ad (.file d) b (.file d); rw [upd_same]; exact hN
        · left
          cases t with
          | file y => have : y ∈ B.fs ++ [d] := ht; simp at this; exact this.resolve_right (fun e2 => e (by rw [e2]))
          | dir y => exact ht
      · exact (Step.of_below hb0).trans (Step.of_reg hs' (.inr (.inr (.inr rfl))))
      · exact List.mem_append_right _ (by simp)
      · intro s hs2 h0
        by_cases e : s = .file d
        · exact .inl e
        · right
          have h1 : upd B.us (.file d) 0 s = B.us s := upd_other e
          refine ⟨?_, h1.symm.trans h0⟩
          cases s with
          | file y => have : y ∈ B.fs ++ [d] := hs2; simp at this; exact this.resolve_right (fun e2 => e (by rw [e2]))
          | dir y => exact hs2
    have R2 : Hid (ptrV b = ptrV (upd B.ad (.file d) b (.file d))) := by rw [Hid, upd_same]
    clear hB hf hF hh hm hx hq hd hs hs' hB2 hB0 hb0 hne
    go_enter Tryz.func162, Tryz.ntmps162
    go_wp2
    go_region
    all_goals
      go_wp2
      go_region
    all_goals
      go_wp2
      go_ret
      exact ⟨_, R.out _ (Below.refl _ _), congrArg Ending.returned R2.out⟩

end Go.Proofs.YtdcbgfhkfmohiaaGreatDoor

/- keep, keepDirectory. -/
namespace Go.Proofs.YtdcbgfhkfmohiaaGreatDoor
open Go.RowKit

theorem Tryz.holdFile (b : Nat) (w : World) : (method 401 131 (.pointer (some ⟨b, 0, none⟩)) "canopy/canopy.hold").run Tryz.prog w = .ok (92, .pointer (some ⟨b, 0, none⟩)) w := by kernel_rfl
theorem Tryz.holdDir (b : Nat) (w : World) : (method 401 89 (.pointer (some ⟨b, 0, none⟩)) "canopy/canopy.hold").run Tryz.prog w = .ok (92, .pointer (some ⟨b, 0, none⟩)) w := by kernel_rfl

/-- A struct read in a region that only reads. -/
theorem quiet_load_mid {P : Program} {ops : Array Oper} {C : World → Prop} {Q : Act → Prop} {a : Act} {o : Oper} {rest : List Oper} (hgd : o.guard = none) (ty : TypeId) (x : Operand) (ho : o.op = .load ty x)
    (b off : Nat) (hx : a.eval x = .pointer (some ⟨b, off, none⟩)) (cs : List Value) (d : TypeDesc) (hS : ∀ w, C w → w.rangeAt b off cs) (hu : P.underlying ty = some d) (hd : d.isRow = true) (hi : (P.info? ty).map (·.size) = some cs.length)
    (h : wpQuiet P ops C Q rest (a.put o.dst (.agg cs.toArray))) : wpQuiet P ops C Q (o :: rest) a :=
  BigFrame.wpQuiet_want (by simp [Region.wanted, hgd]) fun K hK => ⟨.agg cs.toArray, fun w hw => by
    have hr : (execOp a.eval o).run P w = .ok (.value (.agg cs.toArray)) w := by
      unfold execOp
      simp only [ho, hx, Instr.loadAt, Instr.sureAddr, Sem.run_bind, Sem.run_pure, Result.andThen_ok, run_loadVar_mid w b off ty cs d (hS w hw) hu hd hi]
    unfold Oper.quietAt; rw [hr]; exact ⟨rfl, rfl⟩, hK _ h⟩
/-- A look-up in a region that only reads. -/
theorem quiet_lookup {P : Program} {ops : Array Oper} {C : World → Prop} {Q : Act → Prop} {a : Act} {o : Oper} {rest : List Oper} (hgd : o.guard = none) (t : TypeId) (m k : Operand) (ho : o.op = .lookup t m k false)
    (mv kv v : Value) (hm : a.eval m = mv) (hk : a.eval k = kv) (hr : ∀ w, C w → (Instr.lookup t mv kv false).run P w = .ok v w)
    (h : wpQuiet P ops C Q rest (a.put o.dst v)) : wpQuiet P ops C Q (o :: rest) a :=
  BigFrame.wpQuiet_want (by simp [Region.wanted, hgd]) fun K hK => ⟨v, fun w hw => by
    have hr : (execOp a.eval o).run P w = .ok (.value v) w := by
      unfold execOp
      simp only [ho, hm, hk, hr w hw, Sem.run_bind, Sem.run_pure, Result.andThen_ok]
    unfold Oper.quietAt; rw [hr]; exact ⟨rfl, rfl⟩, hK _ h⟩

/-- A store into a map, as a step of a region. -/
theorem step_mapUpdate {P : Program} {ops : Array Oper} {op : Oper} {a : Act} {w : World} {K : Act → World → Prop} {Q : Exit → Act → World → Prop} {E : Prop} (hgd : op.guard = none) (t : TypeId) (m k x : Operand)
    (ho : op.op = .mapUpdate t m k x) (mv kv v : Value) (hm : a.eval m = mv) (hk : a.eval k = kv) (hx : a.eval x = v) (w' : World) (hr : (Instr.mapUpdate t mv kv v).run P w = .ok () w')
    (h : K (a.put op.dst undef) w') : if Region.wanted op (yielded ops a.tmps) = true then Oper.wp P op a w K Q else E := by
  have hw : Region.wanted op (yielded ops a.tmps) = true := by simp [Region.wanted, hgd]
  rw [if_pos hw]
  unfold Oper.wp
  simp only [execOp, ho, hm, hk, hx, hr, Sem.run_bind, Sem.run_pure, Result.andThen_ok]
  exact h

theorem reg_dir {w : World} {B : Bank} {Q : Nat → Int → Prop} (hB : BankAt w B) {b : Nat} {u : Int} {vs : List (Str × Value)} {es : Ents} (hd : DirAt w b u vs) (he : RepE w Q vs es) (hq : Q b u) (hr : B.reg b) : es ∈ B.ds ∧ B.ad (.dir es) = b := by
  obtain ⟨t, h1, h2⟩ := hr
  cases t with
  | file d =>
    have := hB.files d h1
    rw [h2] at this
    exact (file_not_dir this hd).elim
  | dir es' =>
    have hr : RepT w Q (valT B.ad (.dir es')) (.dir es) := by
      show RepT w Q (dirV (B.ad (.dir es'))) (.dir es)
      rw [h2]; exact .dir hd hq he
    have := rep_kept hB _ (.dir es') (.dir es) (Nat.le_refl _) h1 hr
    simp only [Tree.dir.injEq] at this
    subst this
    exact ⟨h1, h2⟩

theorem set_node {l : List (Str × Value)} {i : Nat} (h : i < l.length) (v : Value) : (listCells l).set (1 + i * 2 + 1) v = listCells (l.set i (l[i].1, v)) := by
  rw [← set_cells h l[i].1 v]
  congr 1
  apply List.ext_getElem?
  intro j
  by_cases e : 1 + i * 2 = j
  · subst e
    have h1 := (listCells_name h).1
    rw [show i * 2 + 1 = 1 + i * 2 from by omega] at h1
    rw [List.getElem?_set_self (by have := (List.getElem?_eq_some_iff.1 h1).1; exact this), h1]
  · rw [List.getElem?_set_ne e]

/-- The state of the first loop. -/
structure LoopK (N : Nat) (w : World) (B : Bank) (es : Ents) (vs : List (Str × Value)) (L k : Nat) (wr : World) (Bk : Bank) : Prop where
  grow : Grow N w B wr Bk
  exact' : Exact Bk (fun _ => 0)
  has : ∀ e ∈ es.take k, Bk.has e.2
  zero : ∀ s, Bk.has s → Bk.us s = 0 → (∃ e ∈ es.take k, e.2 = s) ∨ (B.has s ∧ B.us s = 0)
  list : wr.heap[L]? = some (.cells (listCells (valsE Bk.ad (es.take k) ++ vs.drop k)).toArray 147 (0, 0))
  rest : RepE wr (QK N Bk) (vs.drop k) (es.drop k)
  len : Bk.ds.length ≤ B.ds.length + (dirsE (es.take k)).length

theorem dirsE_take {es : Ents} {k : Nat} (h : k < es.length) : (dirsE (es.take (k + 1))).length = (dirsE (es.take k)).length + (dirsT es[k].2).length := by
  induction es generalizing k with
  | nil => simp at h
  | cons e es ih =>
    obtain ⟨x, t⟩ := e
    cases k with
    | zero => simp [dirsE]
    | succ k =>
      have := ih (k := k) (by simpa using h)
      simp only [List.take_succ_cons, dirsE, List.length_append, List.getElem_cons_succ]; omega
theorem dirsE_take_le {es : Ents} (k : Nat) : (dirsE (es.take k)).length ≤ (dirsE es).length := by
  induction es generalizing k with
  | nil => simp
  | cons e es ih =>
    obtain ⟨x, t⟩ := e
    cases k with
    | zero => simp [dirsE]
    | succ k => have := ih k; simp only [List.take_succ_cons, dirsE, List.length_append]; omega

theorem RepE.drop {w : World} {Q : Nat → Int → Prop} {vs : List (Str × Value)} {es : Ents} (h : RepE w Q vs es) (k : Nat) : RepE w Q (vs.drop k) (es.drop k) := by
  induction vs generalizing es k with
  | nil => cases h; simp; exact .nil
  | cons f vs ih => cases h with
    | cons h hs => cases k with
      | zero => exact .cons h hs
      | succ k => exact ih hs k

theorem BankAt.away {w w' : World} {B : Bank} (hA : BankAt w B) {L : Nat} {o : Obj} (hs1 : Set1 w w' L o) {cs : Array Value} (hL : w.heap[L]? = some (.cells cs 147 (0, 0))) : BankAt w' B := by
  have hown := hA.own4 hL (by decide)
  have hnode : ∀ t, B.has t → B.ad t ≠ L := by
    intro t ht e
    have := hA.nodeO ht
    rw [e, hL] at this
    cases t <;> simp [NodeO] at this
  obtain ⟨m1, c1, h1, k1⟩ := hA.snaps
  obtain ⟨m2, c2, h2, k2⟩ := hA.dmap
  obtain ⟨m3, c3, h3, k3⟩ := hA.fmap
  refine ⟨(hs1.other _ (fun e => hown (.inl e.symm))).trans hA.store, ⟨m1, c1, (hs1.other _ (fun e => hown (.inr (.inl e.symm)))).trans h1, k1⟩, ⟨m2, c2, (hs1.other _ (fun e => hown (.inr (.inr (.inl e.symm))))).trans h2, k2⟩, ⟨m3, c3, (hs1.other _ (fun e => hown (.inr (.inr (.inr e.symm))))).trans h3, k3⟩, hA.apart, ?_, ?_, hA.closed, hA.roots, hA.ndD, hA.ndF, hA.ndS⟩
  · intro d hd; exact (hs1.other _ (hnode (.file d) hd)).trans (hA.files d hd)
  · intro x hx; exact ⟨(hA.dirs x hx).1, (hs1.other _ (hnode (.dir x) hx)).trans (hA.dirs x hx).2⟩
theorem Grow.away {N : Nat} {w w2 w3 : World} {B B2 : Bank} (h : Grow N w B w2 B2) {L : Nat} {o : Obj} (hs1 : Set1 w2 w3 L o) {cs : Array Value} (hL : w2.heap[L]? = some (.cells cs 147 (0, 0))) (hw : w.heap.size ≤ L) : Grow N w B w3 B2 :=
  ⟨h.same, h.at'.away hs1 hL, h.old, h.new, ⟨hs1.os.trans h.step.os, hs1.tape.trans h.step.tape, hs1.output.trans h.step.output, by rw [hs1.size]; exact h.step.size, fun b hb => by
    have hne : b ≠ L := by omega
    rcases h.step.blk b hb with h1 | ⟨hr, h1⟩ | h1
    · exact .inl ((hs1.other b hne).trans h1)
    · refine .inr (.inl ⟨hr, ?_⟩)
      rcases h1 with ⟨u, u', d, a1, a2⟩ | ⟨u, u', vs, a1, a2⟩
      · exact .inl ⟨u, u', d, a1, (hs1.other b hne).trans a2⟩
      · exact .inr ⟨u, u', vs, a1, ⟨a2.1, (hs1.other b hne).trans a2.2⟩⟩
    · exact .inr (.inr h1)⟩⟩
theorem RepE.away {w w' : World} {Q : Nat → Int → Prop} {vs : List (Str × Value)} {es : Ents} (h : RepE w Q vs es) {L : Nat} {o : Obj} (hs1 : Set1 w w' L o) {cs : Array Value} (hL : w.heap[L]? = some (.cells cs 147 (0, 0))) : RepE w' Q vs es :=
  h.keep (fun b u vs hd hq => ⟨u, ⟨hd.1, (hs1.other b (fun e => by have := hd.2; rw [e, hL] at this; simp at this)).trans hd.2⟩, hq⟩)
    (fun b u d hd hq => ⟨u, (hs1.other b (fun e => by unfold FileAt at hd; rw [e, hL] at hd; simp at hd)).trans hd, hq⟩)

theorem LoopK.next {N : Nat} {w : World} {B : Bank} {es : Ents} {vs : List (Str × Value)} {L k : Nat} {wr : World} {Bk : Bank} (h : LoopK N w B es vs L k wr Bk) (hL : w.heap.size ≤ L) (hke : k < es.length) (hlen : vs.length = es.length) (hnames : vs[k].1 = es[k].1)
    {w2 : World} {B2 : Bank} (hK : KeepOut1 N wr Bk es[k].2 w2 B2) : LoopK N w B es vs L (k + 1) (w2.setCell ⟨L, 1 + k * 2 + 1, none⟩ (valT B2.ad es[k].2)) B2 ∧ w2.cell? ⟨L, 1 + k * 2 + 1, none⟩ = some vs[k].2 ∧ w2.frozen? ⟨L, 1 + k * 2 + 1, none⟩ = false := by
  obtain ⟨hg, hx, hh, hz, hl⟩ := hK
  have hkv : k < vs.length := by omega
  have htk : es.take (k + 1) = es.take k ++ [es[k]] := List.take_succ_eq_append_getElem hke
  have hdk : vs.drop k = vs[k] :: vs.drop (k + 1) := List.drop_eq_getElem_cons hkv
  have hva : valsE B2.ad (es.take k) = valsE Bk.ad (es.take k) := valsE_congr fun e he => (hg.old _ (h.has e he)).2.1
  have hL2 : w2.heap[L]? = some (.cells (listCells (valsE Bk.ad (es.take k) ++ vs.drop k)).toArray 147 (0, 0)) := (hg.step.other h.grow.at' h.list (by decide) (by decide) (by decide)).trans h.list
  have hlk : (valsE Bk.ad (es.take k)).length = k := by rw [valsE_len]; simp; omega
  have hset : (listCells (valsE Bk.ad (es.take k) ++ vs.drop k)).set (1 + k * 2 + 1) (valT B2.ad es[k].2) = listCells (valsE B2.ad (es.take (k + 1)) ++ vs.drop (k + 1)) := by
    rw [set_node (by rw [List.length_append, hlk, List.length_drop]; omega)]
    congr 1
    have hget : (valsE Bk.ad (es.take k) ++ vs.drop k)[k]'(by rw [List.length_append, hlk, List.length_drop]; omega) = vs[k] := by
      rw [List.getElem_append_right (by omega)]; simp [hlk]
    rw [hget, List.set_append_right _ _ (by omega), hlk, Nat.sub_self, hdk, List.set_cons_zero, htk]
    have : valsE B2.ad (es.take k ++ [es[k]]) = valsE B2.ad (es.take k) ++ [(es[k].1, valT B2.ad es[k].2)] := by unfold valsE; rw [List.map_append]; rfl
    rw [this, hva, hnames]; simp
  have hsz : (listCells (valsE Bk.ad (es.take k) ++ vs.drop k))[1 + k * 2 + 1]? = some vs[k].2 := by
    have h1 := (listCells_name (es := valsE Bk.ad (es.take k) ++ vs.drop k) (k := k) (by rw [List.length_append, hlk, List.length_drop]; omega)).2
    rw [show 1 + k * 2 + 1 = k * 2 + 2 from by omega, h1]
    congr 2
    rw [List.getElem_append_right (by omega)]; simp [hlk]
  have hs1 : Set1 w2 (w2.setCell ⟨L, 1 + k * 2 + 1, none⟩ (valT B2.ad es[k].2)) L _ := setCell_set1 hL2 _
  refine ⟨⟨(h.grow.trans hg).away hs1 hL2 hL, hx, ?_, ?_, ?_, ?_, ?_⟩, (blk_cell hL2 _).trans (by simpa using hsz), blk_free hL2 _⟩
  · intro e he
    rw [htk, List.mem_append] at he
    rcases he with he | he
    · exact (hg.old _ (h.has e he)).1
    · simp at he; rw [he]; exact hh
  · intro s hs h0
    rcases hz s hs h0 with h1 | ⟨h1, h2⟩
    · exact .inl ⟨es[k], by rw [htk]; exact List.mem_append_right _ (by simp), h1.symm⟩
    · rcases h.zero s h1 h2 with ⟨e, he, h3⟩ | h3
      · exact .inl ⟨e, by rw [htk]; exact List.mem_append_left _ he, h3⟩
      · exact .inr h3
  · rw [hs1.here]
    congr 2
    rw [← hset]; simp
  · have := hg.reps h.grow.at' h.rest
    have h3 := this.away hs1 hL2
    have h4 := h3.drop 1
    simpa using h4
  · rw [dirsE_take hke]; have := h.len; omega

end Go.Proofs.YtdcbgfhkfmohiaaGreatDoor
