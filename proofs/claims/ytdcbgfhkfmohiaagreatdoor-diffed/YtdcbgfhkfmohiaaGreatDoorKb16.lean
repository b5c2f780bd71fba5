/- What Diff goes through: two trees side by side. -/
import Derived.Test.YtdcbgfhkfmohiaaGreatDoorKb15
namespace Go.Proofs.YtdcbgfhkfmohiaaGreatDoor
open Go.RowKit

def entO (ad : Tree → Nat) (x : Str) : Option Tree → Ent
  | none => noEnt
  | some t => (x, valT ad t)
def Bank.hasO (B : Bank) : Option Tree → Prop
  | none => True
  | some t => B.has t
def entsO : Option Tree → Ents
  | some (.dir es) => es
  | _ => []
def fileO : Option Tree → Option Str
  | some (.file d) => some d
  | _ => none

def pairsT : Ents → Ents → List (Str × Option Tree × Option Tree)
  | [], [] => []
  | [], (y, u) :: fs => (y, none, some u) :: pairsT [] fs
  | (x, t) :: es, [] => (x, some t, none) :: pairsT es []
  | (x, t) :: es, (y, u) :: fs => if Lib.compareBytes x y = -1 then (x, some t, none) :: pairsT es ((y, u) :: fs) else if Lib.compareBytes x y = 1 then (y, none, some u) :: pairsT ((x, t) :: es) fs else (x, some t, some u) :: pairsT es fs
termination_by es fs => es.length + fs.length

theorem cmp_eq : ∀ {a b : Str}, Lib.compareBytes a b ≠ -1 → Lib.compareBytes a b ≠ 1 → a = b
  | [], [], _, _ => rfl
  | [], _ :: _, h, _ => by simp [Lib.compareBytes] at h
  | _ :: _, [], _, h => by simp [Lib.compareBytes] at h
  | a :: xs, b :: ys, h, h' => by
    unfold Lib.compareBytes at h h'
    by_cases h1 : a < b
    · rw [if_pos h1] at h; exact absurd rfl h
    · by_cases h2 : b < a
      · rw [if_neg h1, if_pos h2] at h'; exact absurd rfl h'
      · rw [if_neg h1, if_neg h2] at h h'
        have e1 : a = b := by
          have h3 : ¬ a.toNat < b.toNat := h1
          have h4 : ¬ b.toNat < a.toNat := h2
          exact UInt8.toNat_inj.1 (by omega)
        rw [e1, cmp_eq h h']

theorem pairs_vals (ad : Tree → Nat) (n : Nat) : ∀ es fs : Ents, es.length + fs.length ≤ n → pairsL (valsE ad es) (valsE ad fs) = (pairsT es fs).map fun p => (entO ad p.1 p.2.1, entO ad p.1 p.2.2) := by
  induction n with
  | zero =>
    intro es fs h
    obtain rfl : es = [] := List.length_eq_zero_iff.1 (by omega)
    obtain rfl : fs = [] := List.length_eq_zero_iff.1 (by omega)
    simp [valsE, pairsL, pairsT]
  | succ n ih =>
    intro es fs h
    cases es with
    | nil =>
      cases fs with
      | nil => simp [valsE, pairsL, pairsT]
      | cons f fs =>
        have := ih [] fs (by simp at h ⊢; omega)
        simp only [valsE, List.map_nil, List.map_cons] at this ⊢
        rw [pairsL, pairsT, this]; rfl
    | cons e es =>
      cases fs with
      | nil =>
        have := ih es [] (by simp at h ⊢; omega)
        simp only [valsE, List.map_nil, List.map_cons] at this ⊢
        rw [pairsL, pairsT, this]; rfl
      | cons f fs =>
        have i1 := ih es (f :: fs) (by simp at h ⊢; omega)
        have i2 := ih (e :: es) fs (by simp at h ⊢; omega)
        have i3 := ih es fs (by simp at h ⊢; omega)
        simp only [valsE, List.map_cons] at i1 i2 i3 ⊢
        rw [pairsL, pairsT]
        by_cases h1 : Lib.compareBytes e.1 f.1 = -1
        · simp only [h1, if_true]; rw [i1]; rfl
        · by_cases h2 : Lib.compareBytes e.1 f.1 = 1
          · rw [if_neg h1, if_pos h2, if_neg h1, if_pos h2, i2]; rfl
          · rw [if_neg h1, if_neg h2, if_neg h1, if_neg h2, i3]
            simp only [List.map_cons, entO]
            rw [cmp_eq h1 h2]

theorem pairs_mem {n : Nat} : ∀ {es fs : Ents}, es.length + fs.length ≤ n → ∀ p ∈ pairsT es fs, (∀ t, p.2.1 = some t → (p.1, t) ∈ es) ∧ (∀ t, p.2.2 = some t → ∃ y, (y, t) ∈ fs ∧ (p.1 = y)) ∧ (p.2.1 = none → p.2.2 ≠ none) := by
  induction n with
  | zero =>
    intro es fs h p hp
    obtain rfl : es = [] := List.length_eq_zero_iff.1 (by omega)
    obtain rfl : fs = [] := List.length_eq_zero_iff.1 (by omega)
    simp [pairsT] at hp
  | succ n ih =>
    intro es fs h p hp
    cases es with
    | nil =>
      cases fs with
      | nil => simp [pairsT] at hp
      | cons f fs =>
        rw [pairsT] at hp
        simp only [List.mem_cons] at hp
        rcases hp with rfl | hp
        · simp
        · obtain ⟨h1, h2, h3⟩ := ih (es := []) (fs := fs) (by simp at h ⊢; omega) p hp
          exact ⟨h1, fun t ht => by obtain ⟨y, hy, e⟩ := h2 t ht; exact ⟨y, by simp [hy], e⟩, h3⟩
    | cons e es =>
      cases fs with
      | nil =>
        rw [pairsT] at hp
        simp only [List.mem_cons] at hp
        rcases hp with rfl | hp
        · simp
        · obtain ⟨h1, h2, h3⟩ := ih (es := es) (fs := []) (by simp at h ⊢; omega) p hp
          exact ⟨fun t ht => by simp [h1 t ht], h2, h3⟩
      | cons f fs =>
        rw [pairsT] at hp
        by_cases c1 : Lib.compareBytes e.1 f.1 = -1
        · rw [if_pos c1] at hp
          simp only [List.mem_cons] at hp
          rcases hp with rfl | hp
          · simp
          · obtain ⟨h1, h2, h3⟩ := ih (es := es) (fs := f :: fs) (by simp at h ⊢; omega) p hp
            exact ⟨fun t ht => by simp [h1 t ht], h2, h3⟩
        · by_cases c2 : Lib.compareBytes e.1 f.1 = 1
          · rw [if_neg c1, if_pos c2] at hp
            simp only [List.mem_cons] at hp
            rcases hp with rfl | hp
            · simp
            · obtain ⟨h1, h2, h3⟩ := ih (es := e :: es) (fs := fs) (by simp at h ⊢; omega) p hp
              exact ⟨h1, fun t ht => by obtain ⟨y, hy, e⟩ := h2 t ht; exact ⟨y, by simp [hy], e⟩, h3⟩
          · rw [if_neg c1, if_neg c2] at hp
            simp only [List.mem_cons] at hp
            rcases hp with rfl | hp
            · refine ⟨by simp, ?_, by simp⟩
              intro t ht
              simp only [Option.some.injEq] at ht
              subst ht
              exact ⟨f.1, by simp, cmp_eq c1 c2⟩
            · obtain ⟨h1, h2, h3⟩ := ih (es := es) (fs := fs) (by simp at h ⊢; omega) p hp
              exact ⟨fun t ht => by simp [h1 t ht], fun t ht => by obtain ⟨y, hy, e⟩ := h2 t ht; exact ⟨y, by simp [hy], e⟩, h3⟩

def fitsT : Nat → Option Tree → Prop
  | _, none => True
  | 0, some _ => False
  | _ + 1, some (.file _) => True
  | n + 1, some (.dir es) => ∀ e ∈ es, e.1 ≠ [] ∧ e.1.length ≤ 8 ∧ fitsT n (some e.2)

def markT (a b : Option Tree) : Nat := match fileO a, fileO b with
  | none, none => 0
  | some _, none => 45
  | none, some _ => 43
  | some d, some e => if d = e then 0 else 126

open Classical in
noncomputable def chgS : Nat → Str → Option Tree → Option Tree → List (Str × Nat)
  | 0, _, _, _ => []
  | n + 1, path, a, b => if a = b then [] else (if markT a b = 0 then [] else [(path, markT a b)]) ++ (pairsT (entsO a) (entsO b)).flatMap fun p => chgS n (joinS path p.1) p.2.1 p.2.2

theorem changes_any (e1 e2 : Ent) (s : Str) (w : World) (h1 : e1.2.oneCell' = true) (h2 : e2.2.oneCell' = true) :
    Calls Tryz.prog 46 #[entV e1, entV e2, SV s] w fun e w' => e = .returned (.func (.func 71) #[] #[ptrV w.heap.size, ptrV (w.heap.size + 1), ptrV (w.heap.size + 2)]) ∧
      w' = ((w.alloc (.cells #[SV e1.1, e1.2] 101)).alloc (.cells #[SV e2.1, e2.2] 101)).alloc (.cells #[SV s] 9) := by
  obtain ⟨a1, v1⟩ := e1
  obtain ⟨a2, v2⟩ := e2
  go_enter Tryz.func46, Tryz.ntmps46
  go_wp2
  go_ret
  exact ⟨rfl, rfl⟩

end Go.Proofs.YtdcbgfhkfmohiaaGreatDoor

/- Diff's iterator: its parts. -/
namespace Go.Proofs.YtdcbgfhkfmohiaaGreatDoor
open Go.RowKit

theorem list_empty (w : World) : ListAt (w.alloc (.cells (listCells []).toArray 147)) w.heap.size 0 [] :=
  ⟨by simp, fun i u hu => by
    have := blk_cell (heap_alloc_new w (.cells (listCells []).toArray 147)) i
    rw [Nat.zero_add]
    rw [this]
    simpa using hu⟩

def ApartOut (W : World) (B : Bank) (a : Option Tree) (e : Ending) (w' : World) : Prop :=
  ∃ lb lo, e = .returned (.tuple #[ptrO ((fileO a).map fun d => B.ad (.file d)), .pointer (some ⟨lb, lo, none⟩)]) ∧ Below W.heap.size W w' ∧ ListAt w' lb lo (valsE B.ad (entsO a)) ∧ (B.own lb ∨ W.heap.size ≤ lb) ∧ lb < w'.heap.size

theorem apart_any (B : Bank) (a : Option Tree) (x : Str) (W : World) (hB : BankAt W B) (ha : B.hasO a) : Calls Tryz.prog 73 #[(entO B.ad x a).2] W fun e w' => ApartOut W B a e w' := by
  cases a with
  | none =>
    refine (apart_nil W).mono ?_
    rintro e w' ⟨rfl, rfl⟩
    exact ⟨_, 0, rfl, (Below.refl _ _).alloc (Nat.le_refl _) _, list_empty W, .inr (Nat.le_refl _), by simp⟩
  | some t =>
    cases t with
    | file d =>
      refine (apart_file (B.ad (.file d)) W).mono ?_
      rintro e w' ⟨rfl, rfl⟩
      exact ⟨_, 0, rfl, (Below.refl _ _).alloc (Nat.le_refl _) _, list_empty W, .inr (Nat.le_refl _), by simp⟩
    | dir es =>
      have hd := hB.dirs es ha
      refine (apart_dir (B.ad (.dir es)) W).mono ?_
      rintro e w' ⟨rfl, hb⟩
      exact ⟨_, 1, rfl, hb, (hd.below hb (Nat.le_refl _)).list, .inl (.inr (.inr (.inr (.inr ⟨.dir es, ha, rfl⟩)))), Nat.lt_of_lt_of_le (Array.getElem?_eq_some_iff.1 hd.2).1 hb.size⟩

theorem mark_same {W : World} {B : Bank} (hB : BankAt W B) {a b : Option Tree} (ha : B.hasO a) (hb : B.hasO b) : markN ((fileO a).map fun d => B.ad (.file d)) ((fileO b).map fun d => B.ad (.file d)) = markT a b := by
  unfold markT markN
  cases hfa : fileO a with
  | none => cases fileO b <;> simp
  | some d =>
    cases hfb : fileO b with
    | none => simp
    | some e =>
      have h1 : B.has (.file d) := by cases a with | none => simp [fileO] at hfa | some t => cases t <;> simp [fileO] at hfa; subst hfa; exact ha
      have h2 : B.has (.file e) := by cases b with | none => simp [fileO] at hfb | some t => cases t <;> simp [fileO] at hfb; subst hfb; exact hb
      simp only [Option.map_some, Option.some.injEq]
      by_cases he : d = e
      · subst he; simp
      · rw [if_neg he, if_neg (fun h => he (by have := hB.same h1 h2 h; simpa using this)), if_neg (by simp), if_neg (by simp)]

theorem file_block {W : World} {B : Bank} (hB : BankAt W B) {a : Option Tree} (ha : B.hasO a) : ∀ k, (fileO a).map (fun d => B.ad (.file d)) = some k → ∃ c, W.heap[k]? = some (.cells c 135 (0, 0)) := by
  intro k hk
  cases a with
  | none => simp [fileO] at hk
  | some t =>
    cases t with
    | dir es => simp [fileO] at hk
    | file d =>
      simp only [fileO, Option.map_some, Option.some.injEq] at hk
      subst hk
      exact ⟨_, hB.files d ha⟩

end Go.Proofs.YtdcbgfhkfmohiaaGreatDoor

/- A comparison of entries does not come to two nils. -/
namespace Go.Proofs.YtdcbgfhkfmohiaaGreatDoor
open Go.RowKit

theorem guard_ok {w : World} (o1 o2 : Operand) {n1 n2 : Str} {v1 v2 : Value} (h : ¬ (v1 = .nilIface ∧ v2 = .nilIface)) : (eqGuard .eql 101 o1 o2 (.agg #[SV n1, v1]) (.agg #[SV n2, v2])).run Tryz.prog w = .ok () w := by
  have p1 : (part 9 #[SV n1, v1] 0).run Tryz.prog w = .ok (SV n1) w := run_part_one Tryz.underlying9 rfl rfl
  have p2 : (part 9 #[SV n2, v2] 0).run Tryz.prog w = .ok (SV n2) w := run_part_one Tryz.underlying9 rfl rfl
  have p3 : (part 99 #[SV n1, v1] 1).run Tryz.prog w = .ok v1 w := run_part_one Tryz.underlying99 rfl rfl
  have p4 : (part 99 #[SV n2, v2] 1).run Tryz.prog w = .ok v2 w := run_part_one Tryz.underlying99 rfl rfl
  have g1 : (Op.eqGuardIn 9999 9 (SV n1) (SV n2)).run Tryz.prog w = .ok false w := by
    rw [show (9999 : Nat) = 9998 + 1 from rfl, Op.eqGuardIn]
    simp only [Sem.run_bind, run_underlying Tryz.underlying9, Result.andThen_ok, Sem.run_pure]
  have g2 : (Op.eqGuardIn 9999 99 v1 v2).run Tryz.prog w = .ok false w := by
    rw [show (9999 : Nat) = 9998 + 1 from rfl, Op.eqGuardIn]
    simp only [Sem.run_bind, run_underlying Tryz.underlying99, Result.andThen_ok]
    clear p3 p4 p1 p2 g1
    cases v1 <;> first | rfl | (cases v2 <;> first | rfl | exact absurd ⟨rfl, rfl⟩ h)
  have hg : (Op.eqGuardIn 10000 101 (.agg #[SV n1, v1]) (.agg #[SV n2, v2])).run Tryz.prog w = .ok false w := by
    rw [show (10000 : Nat) = 9999 + 1 from rfl, Op.eqGuardIn]
    simp only [Sem.run_bind, run_underlying Tryz.underlying101, Result.andThen_ok]
    simp [p1, p2, p3, p4, g1, g2]
  unfold eqGuard
  simp [run_program, Op.maxDepth, hg]

end Go.Proofs.YtdcbgfhkfmohiaaGreatDoor

/- The two loops of Diff's iterator: what their assign code lays. -/
namespace Go.Proofs.YtdcbgfhkfmohiaaGreatDoor
open Go.RowKit

theorem range_boxed {n m : Nat} {g : Operand} {ps : Array Tmp} {assign body : Code} {Q : Exit → Act → World → Prop} {a : Act} {w : World} {gf : Nat} {lb : Array Value} (hg : a.eval g = .func (.func gf) #[] lb) (eg : ∀ args w, (callFunc gf args).run Tryz.prog w = .ok (.enter gf args) w)
    {xs : List (Ent × Ent)} {R : Nat → Prop} (hseq : SeqOf Tryz.prog gf lb encP xs R w) (hps : ∀ x, (encP x).size = ps.size) (O : Nat → Prop) (hR : ∀ k, R k → k < w.heap.size ∧ ¬ O k)
    (I : List (Ent × Ent) → (Nat → Prop) → World → Prop) (hloc : ∀ pre, Local w.heap.size (I pre)) (h0 : I [] O w) (ins : Array Value → Ent × Ent → Nat → Nat → Array Value)
    (hassign : ∀ l x W (K : Act → World → Prop), x ∈ xs → K { tmps := ins a.tmps x W.heap.size (W.heap.size + 1), defers := [] } ((W.alloc (.cells #[SV x.1.1, x.1.2] 101)).alloc (.cells #[SV x.2.1, x.2.2] 101)) →
      assign.wpIn (Fence.wide.inRound l) m Tryz.prog (Exit.then K (fun _ _ _ => False)) { tmps := (ps.zip (encP x)).foldl (fun t (p, v) => t.setIfInBounds p v) a.tmps, defers := [] } W)
    (hbody : ∀ l r pre x O1 b1 b2 W2, w.heap.size ≤ l → pre ++ [x] <+: xs → W2.heap[b1]? = some (.cells #[SV x.1.1, x.1.2] 101 (0, 0)) → W2.heap[b2]? = some (.cells #[SV x.2.1, x.2.2] 101 (0, 0)) → W2.heap[l]? = some (.loop r) → I pre O1 W2 → Turn O w W2 O1 →
      body.wpIn (Fence.wide.inRound l) m Tryz.prog (goesOn I (pre ++ [x]) O1 W2) { tmps := ins a.tmps x b1 b2, defers := [] } W2)
    (hdone : ∀ D O' W', w.heap.size ≤ D → I xs O' W' → ¬ O' D → Turn O w W' O' → W'.heap[D]? = some (.deferred (some [])) → Q .normal { a with defers := { target := .collected D, args := #[] } :: a.defers } W') :
    (Code.rangeFunc g ps assign body).wpIn Fence.wide n Tryz.prog Q a w := by
  refine range_outer (m := m) hg eg hseq hps O hR I hloc h0 (fun x a' W' => ∃ b1 b2, W'.heap[b1]? = some (.cells #[SV x.1.1, x.1.2] 101 (0, 0)) ∧ W'.heap[b2]? = some (.cells #[SV x.2.1, x.2.2] 101 (0, 0)) ∧ a' = { tmps := ins a.tmps x b1 b2, defers := [] }) ?_ ?_ hdone
  · intro l pre x O1 W K hx _ hK
    obtain ⟨r, hr⟩ := hx
    have tb := two_blocks W (.cells #[SV x.1.1, x.1.2] 101) (.cells #[SV x.2.1, x.2.2] 101)
    exact hassign l x W K (by rw [← hr]; simp) (hK _ _ tb.2.2 ⟨_, _, tb.1, tb.2.1, rfl⟩)
  · rintro l r pre x O1 a' W' W2 h1 h2 h3 ⟨b1, b2, k1, k2, rfl⟩ ⟨r0, h5⟩ h6 h7 h8 h9
    refine hbody l r pre x O1 b1 b2 W2 h1 h2 ?_ ?_ h7 h8 h9
    · exact (h6.blk _ (fun e => by rw [e, h5] at k1; cases k1)).trans k1
    · exact (h6.blk _ (fun e => by rw [e, h5] at k2; cases k2)).trans k2

theorem range_plain {α : Type} {n m : Nat} {g : Operand} {ps : Array Tmp} {assign body : Code} {Q : Exit → Act → World → Prop} {a : Act} {w : World} {l₀ : Nat} {r₀ : Loop} (hl₀ : w.heap[l₀]? = some (.loop r₀)) {gf : Nat} {lb : Array Value} (hg : a.eval g = .func (.func gf) #[] lb) (eg : ∀ args w, (callFunc gf args).run Tryz.prog w = .ok (.enter gf args) w)
    {encs : α → Array Value} {xs : List α} {R : Nat → Prop} (hseq : SeqOf Tryz.prog gf lb encs xs R w) (hps : ∀ x, (encs x).size = ps.size) (O : Nat → Prop) (hR : ∀ k, R k → k < w.heap.size ∧ ¬ O k)
    (I : List α → (Nat → Prop) → World → Prop) (hloc : ∀ pre, Local w.heap.size (I pre)) (h0 : I [] O w) (ins : Array Value → α → Array Value)
    (hassign : ∀ l x W (K : Act → World → Prop), K { tmps := ins a.tmps x, defers := [] } W →
      assign.wpIn (Fence.wide.inRound l) m Tryz.prog (Exit.then K (fun _ _ _ => False)) { tmps := (ps.zip (encs x)).foldl (fun t (p, v) => t.setIfInBounds p v) a.tmps, defers := [] } W)
    (hbody : ∀ l pre x O1 W2, w.heap.size ≤ l → pre ++ [x] <+: xs → I pre O1 W2 → Turn O w W2 O1 →
      body.wpIn (Fence.wide.inRound l) m Tryz.prog (goesOn I (pre ++ [x]) O1 W2) { tmps := ins a.tmps x, defers := [] } W2)
    (hdone : ∀ O' W', I xs O' W' → Turn O w W' O' → Q .normal a W') :
    (Code.rangeFunc g ps assign body).wpIn (Fence.wide.inRound l₀) n Tryz.prog Q a w := by
  refine range_inner (m := m) hl₀ hg eg hseq hps O hR I hloc h0 (fun x a' _ => a' = { tmps := ins a.tmps x, defers := [] }) ?_ ?_ hdone
  · intro l pre x O1 W K _ _ hK
    exact hassign l x W K (hK _ _ (Below.refl _ _) rfl)
  · rintro l r pre x O1 a' W' W2 h1 h2 h3 rfl _ _ _ h8 h9
    exact hbody l pre x O1 W2 h1 h2 h8 h9

end Go.Proofs.YtdcbgfhkfmohiaaGreatDoor
