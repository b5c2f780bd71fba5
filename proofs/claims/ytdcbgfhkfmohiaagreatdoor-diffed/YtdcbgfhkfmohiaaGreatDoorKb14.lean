/- New. -/
import Derived.Test.YtdcbgfhkfmohiaaGreatDoorKb13
namespace Go.Proofs.YtdcbgfhkfmohiaaGreatDoor
open Go.RowKit

def NewOut (w : World) (c : Nat) (e : Ending) (w' : World) : Prop :=
  ∃ B : Bank, e = .returned (.tuple #[ptrV B.sb, .int .i64 0]) ∧ Okay w' B ∧ Agree B (newR c) ∧ Below w.heap.size w w' ∧ (∀ k, B.own k → w.heap.size ≤ k) ∧ w'.heap[B.rr]? = some (.map #[] 0) ∧ ¬ B.own B.rr ∧ w.heap.size ≤ B.rr

/-- A store with nothing in it. -/
def bank0 (h c : Nat) : Bank := { sb := h + 4, rs := h, rd := h + 1, rf := h + 2, rr := h + 3, room := c, made := 0, ds := [], fs := [], ss := [], ad := fun _ => 0, us := fun _ => 0 }

theorem okay0 {w : World} {h c : Nat} (hs : w.heap[h + 4]? = some (.cells #[.int .i64 c, .int .i64 0, .map (some h), .map (some (h + 1)), .map (some (h + 2)), .map (some (h + 3))] 87 (0, 0))) (h1 : w.heap[h]? = some (.map #[] 0)) (h2 : w.heap[h + 1]? = some (.map #[] 0)) (h3 : w.heap[h + 2]? = some (.map #[] 0)) (hc : c ≤ 200) : Okay w (bank0 h c) := by
  refine ⟨⟨hs, ⟨_, _, h1, rfl⟩, ⟨_, _, h2, rfl⟩, ⟨_, _, h3, rfl⟩, ?_, ?_, ?_, ?_, ?_, ?_, ?_, ?_⟩, ⟨?_, ?_, ?_, ?_⟩, ?_, ?_, ?_, ?_⟩
  · show h ≠ h + 1 ∧ h ≠ h + 2 ∧ h + 1 ≠ h + 2; omega
  · intro d hd; simp [bank0] at hd
  · intro d hd; simp [bank0] at hd
  · intro d hd; simp [bank0] at hd
  · intro d hd; simp [bank0] at hd
  · simp [bank0]
  · simp [bank0]
  · simp [bank0]
  · intro t ht; cases t <;> simp [bank0, Bank.has] at ht
  · intro t ht; cases t <;> simp [bank0, Bank.has] at ht
  · intro s hs; omega
  · intro t ht; cases t <;> simp [bank0, Bank.has] at ht
  · intro s hs; simp [bank0] at hs
  · simp [bank0]
  · show 0 + 0 ≤ c ∧ c ≤ 200; omega
  · intro s hs; simp [bank0] at hs

theorem newR_keep {c : Nat} (h : 1 ≤ c) : keepR ⟨c, 0, []⟩ (toF (filesE [])) = (newR c, 0, 0) := by
  rw [keepR_ok (by simp) (by
    have : cellsOf { limit := c, made := 0, all := [] ++ [(0, toF (filesE []))] } = 1 := by
      unfold cellsOf; simp only [filesE, toF]; rfl
    rw [this]; show ¬ c < 1; omega)]
  rfl

theorem alloc6 (w : World) (o1 o2 o3 o4 o5 o6 : Obj) : ∃ W : World, W = (((((w.alloc o1).alloc o2).alloc o3).alloc o4).alloc o5).alloc o6 ∧ W.heap[w.heap.size]? = some o1 ∧ W.heap[w.heap.size + 1]? = some o2 ∧ W.heap[w.heap.size + 2]? = some o3 ∧ W.heap[w.heap.size + 3]? = some o4 ∧ W.heap[w.heap.size + 4]? = some o5 ∧ W.heap[w.heap.size + 5]? = some o6 ∧ Below w.heap.size w W := by
  refine ⟨_, rfl, ?_, ?_, ?_, ?_, ?_, ?_, ?_⟩
  · rw [Below.heap_alloc _ _ _ (by simp <;> omega), Below.heap_alloc _ _ _ (by simp <;> omega), Below.heap_alloc _ _ _ (by simp <;> omega), Below.heap_alloc _ _ _ (by simp <;> omega), Below.heap_alloc _ _ _ (by simp)]; exact heap_alloc_new _ _
  · rw [Below.heap_alloc _ _ _ (by simp <;> omega), Below.heap_alloc _ _ _ (by simp <;> omega), Below.heap_alloc _ _ _ (by simp <;> omega), Below.heap_alloc _ _ _ (by simp)]
    have := heap_alloc_new (w.alloc o1) o2; simpa using this
  · rw [Below.heap_alloc _ _ _ (by simp <;> omega), Below.heap_alloc _ _ _ (by simp <;> omega), Below.heap_alloc _ _ _ (by simp)]
    have := heap_alloc_new ((w.alloc o1).alloc o2) o3; simpa using this
  · rw [Below.heap_alloc _ _ _ (by simp <;> omega), Below.heap_alloc _ _ _ (by simp)]
    have := heap_alloc_new (((w.alloc o1).alloc o2).alloc o3) o4; simpa using this
  · rw [Below.heap_alloc _ _ _ (by simp)]
    have := heap_alloc_new ((((w.alloc o1).alloc o2).alloc o3).alloc o4) o5; simpa using this
  · have := heap_alloc_new (((((w.alloc o1).alloc o2).alloc o3).alloc o4).alloc o5) o6; simpa using this
  · exact (((((((Below.refl _ _).alloc (Nat.le_refl _) _).alloc (by simp) _).alloc (by simp <;> omega) _).alloc (by simp <;> omega) _).alloc (by simp <;> omega) _).alloc (by simp <;> omega) _)

set_option maxHeartbeats 2000000 in
theorem storeNew_any (c : Nat) (w : World) (h1 : 1 ≤ c) (h2 : c ≤ 200) : Calls Tryz.prog 43 #[.int .i64 (c : Int)] w fun e w' => NewOut w c e w' := by
  have hmm := @run_makeMap Tryz.prog
  have i1 : ¬ (c : Int) < 1 := by omega
  have i2 : ¬ (200 : Int) < (c : Int) := by omega
  go_enter Tryz.func43, Tryz.ntmps43
  go_wp2_with fail
  obtain ⟨W, hW, e1, e2, e3, e4, e5, e6, hb⟩ := alloc6 w (.map #[] 0) (.map #[] 0) (.map #[] 0) (.map #[] 0) (.cells #[.int .i64 (c : Int), .int .i64 0, .map (some w.heap.size), .map (some (w.heap.size + 1)), .map (some (w.heap.size + 1 + 1)), .map (some (w.heap.size + 1 + 1 + 1))] 87) (.cells (Value.int .i64 0 :: listCells []).toArray 149)
  have hO := okay0 (w := W) (h := w.heap.size) (c := c) e5 e1 e2 e3 h2
  have hd : DirAt W (w.heap.size + 5) 0 [] := ⟨by simp, e6⟩
  have hown : ∀ k, (bank0 w.heap.size c).own k → w.heap.size ≤ k := by
    intro k hk
    rcases hk with h | h | h | h | ⟨t, h, _⟩
    · have : k = w.heap.size + 4 := h; omega
    · have : k = w.heap.size := h; omega
    · have : k = w.heap.size + 1 := h; omega
    · have : k = w.heap.size + 2 := h; omega
    · cases t <;> simp [bank0, Bank.has] at h
  have hN5 : w.heap.size + 5 ≤ W.heap.size := Nat.le_of_lt (Array.getElem?_eq_some_iff.1 e6).1
  have C := storeAdd_any (w.heap.size + 5) (bank0 w.heap.size c) (w.heap.size + 5) 0 [] [] ⟨c, 0, []⟩ W hO ⟨rfl, rfl, rfl⟩ hd (fun h => by rcases h with h | h; exact absurd rfl h; omega) .nil hN5 trivial (by simp [filesE]) (by simp [heightE]) (by show (0 : Nat) < _; omega)
  rw [newR_keep h1] at C
  subst hW
  refine C.mono ?_
  rintro e w' ⟨B', rfl, hO', hA', hX'⟩
  have R : Hid (NewOut w c (.returned (.tuple #[ptrV (w.heap.size + 4), .int .i64 0])) w') := by
    have hsb : B'.sb = w.heap.size + 4 := hX'.four.1
    have hrr : B'.rr = w.heap.size + 3 := hX'.four.2.2.2.2
    have hno : ¬ (bank0 w.heap.size c).own (w.heap.size + 3) := by
      rintro (h | h | h | h | ⟨t, h, _⟩)
      · have : w.heap.size + 3 = w.heap.size + 4 := h; omega
      · have : w.heap.size + 3 = w.heap.size := h; omega
      · have : w.heap.size + 3 = w.heap.size + 1 := h; omega
      · have : w.heap.size + 3 = w.heap.size + 2 := h; omega
      · cases t <;> simp [bank0, Bank.has] at h
    refine ⟨B', by rw [hsb], hO', hA', ?_, fun k hk => (hX'.own k hk).elim (hown k) (fun h => by omega), ?_, ?_, by omega⟩
    · exact hb.trans ⟨hX'.os, hX'.tape, hX'.output, hX'.size, fun k hk => hX'.blk k (by omega) (fun ho => by have := hown k ho; omega)⟩
    · rw [hrr]; exact (hX'.blk _ (by omega) hno).trans e4
    · rw [hrr]; exact fun h => (hX'.own _ h).elim hno (fun h2 => by omega)
  clear hO' hA' hX' C hO hd hb e1 e2 e3 e4 e5 e6 hown hN5
  go_wp2
  go_ret2
  exact R.out

end Go.Proofs.YtdcbgfhkfmohiaaGreatDoor

/- A store of the program's beside the document's: their state, their frame. -/
namespace Go.Proofs.YtdcbgfhkfmohiaaGreatDoor
open Go.RowKit

structure Duo where
  B : Bank
  b : Nat
  r : RSt
  va : Value
  vr : Value
  sn : List (Nat × Value)

/-- The blocks of the document's store. -/
def Duo.docs (D : Duo) (k : Nat) : Prop := k = D.b ∨ D.va.ownBlock = some k ∨ ∃ x ∈ D.sn, x.2.ownBlock = some k
def Duo.own (D : Duo) (k : Nat) : Prop := D.B.own k ∨ D.docs k

structure DuoAt (w : World) (D : Duo) : Prop where
  ok : Okay w D.B
  ref : RefAt w D.b D.r D.va D.vr D.sn
  ag : Agree D.B D.r
  apart : ∀ k, D.B.own k → ¬ D.docs k

structure DuoStep (w : World) (D : Duo) (w' : World) (D' : Duo) : Prop where
  os : w'.os = w.os
  tape : w'.tape = w.tape
  output : w'.output = w.output
  size : w.heap.size ≤ w'.heap.size
  blk : ∀ k, k < w.heap.size → ¬ D.own k → w'.heap[k]? = w.heap[k]?
  own : ∀ k, D'.own k → D.own k ∨ w.heap.size ≤ k
  sb : D'.B.sb = D.B.sb
  b : D'.b = D.b
  made : D'.r.made ≤ D.r.made + 1

theorem BankAt.frame {w w' : World} {B : Bank} (h : BankAt w B) (hb : ∀ k, B.own k → w'.heap[k]? = w.heap[k]?) : BankAt w' B := by
  obtain ⟨m1, c1, h1, k1⟩ := h.snaps
  obtain ⟨m2, c2, h2, k2⟩ := h.dmap
  obtain ⟨m3, c3, h3, k3⟩ := h.fmap
  exact ⟨(hb _ (.inl rfl)).trans h.store, ⟨m1, c1, (hb _ (.inr (.inl rfl))).trans h1, k1⟩, ⟨m2, c2, (hb _ (.inr (.inr (.inl rfl)))).trans h2, k2⟩, ⟨m3, c3, (hb _ (.inr (.inr (.inr (.inl rfl))))).trans h3, k3⟩, h.apart,
    fun d hd => (hb _ (.inr (.inr (.inr (.inr ⟨.file d, hd, rfl⟩))))).trans (h.files d hd), fun es he => ⟨(h.dirs es he).1, (hb _ (.inr (.inr (.inr (.inr ⟨.dir es, he, rfl⟩))))).trans (h.dirs es he).2⟩, h.closed, h.roots, h.ndD, h.ndF, h.ndS⟩
theorem Okay.frame {w w' : World} {B : Bank} (h : Okay w B) (hb : ∀ k, B.own k → w'.heap[k]? = w.heap[k]?) : Okay w' B := ⟨h.at'.frame hb, h.calm, h.wf, h.few, h.room, h.nums⟩
theorem BankAt.own_lt {w : World} {B : Bank} (h : BankAt w B) {k : Nat} (hk : B.own k) : k < w.heap.size := by
  obtain ⟨m1, c1, h1, _⟩ := h.snaps
  obtain ⟨m2, c2, h2, _⟩ := h.dmap
  obtain ⟨m3, c3, h3, _⟩ := h.fmap
  rcases hk with rfl | rfl | rfl | rfl | ⟨t, ht, rfl⟩
  · exact (Array.getElem?_eq_some_iff.1 h.store).1
  · exact (Array.getElem?_eq_some_iff.1 h1).1
  · exact (Array.getElem?_eq_some_iff.1 h2).1
  · exact (Array.getElem?_eq_some_iff.1 h3).1
  · exact (Array.getElem?_eq_some_iff.1 (h.nodeO ht)).1

theorem rowKept {w w' : World} {base : Nat} {e : TypeId} {size n : Nat} {v : Value} {xs : List Value} (h : w.ownsRow base e size v n xs) (hb : ∀ k, v.ownBlock = some k → w'.heap[k]? = w.heap[k]?) : w'.ownsRow base e size v n xs := by
  refine ⟨h.1, ?_⟩
  rcases h.2 with h | ⟨g, cap, cur, rfl, h2, h3, h4⟩
  · exact .inl h
  · exact .inr ⟨g, cap, cur, rfl, h2, (hb g rfl).trans h3, h4⟩

theorem RefAt.frame {w w' : World} {D : Duo} (h : RefAt w D.b D.r D.va D.vr D.sn) (hb : ∀ k, D.docs k → w'.heap[k]? = w.heap[k]?) : RefAt w' D.b D.r D.va D.vr D.sn :=
  ⟨(hb _ (.inl rfl)).trans h.blk, rowKept h.row (fun k hk => hb k (.inr (.inl hk))), h.len, h.num, fun k h1 h2 => files_kept (h.fil k h1 h2) (fun j hj => hb j (.inr (.inr ⟨_, List.getElem_mem h1, hj⟩))), h.tiny, h.few, h.lim⟩
theorem RefAt.docs_lt {w : World} {D : Duo} (h : RefAt w D.b D.r D.va D.vr D.sn) {k : Nat} (hk : D.docs k) : k < w.heap.size := by
  rcases hk with rfl | hk | ⟨x, hx, hk⟩
  · exact (Array.getElem?_eq_some_iff.1 h.blk).1
  · exact (h.row.lt k hk).2
  · obtain ⟨i, hi, rfl⟩ := List.getElem_of_mem hx
    exact ((h.fil i hi (by rw [← h.len]; exact hi)).lt k hk).2

theorem DuoAt.frame {w w' : World} {D : Duo} (h : DuoAt w D) (hb : ∀ k, D.own k → w'.heap[k]? = w.heap[k]?) : DuoAt w' D :=
  ⟨h.ok.frame (fun k hk => hb k (.inl hk)), h.ref.frame (fun k hk => hb k (.inr hk)), h.ag, h.apart⟩
theorem DuoAt.own_lt {w : World} {D : Duo} (h : DuoAt w D) {k : Nat} (hk : D.own k) : k < w.heap.size := hk.elim (fun h1 => h.ok.at'.own_lt h1) (fun h1 => h.ref.docs_lt h1)

theorem DuoStep.of_below {w w' : World} {D : Duo} (h : Below w.heap.size w w') : DuoStep w D w' D :=
  ⟨h.os, h.tape, h.output, h.size, fun k hk _ => h.block k hk, fun _ hk => .inl hk, rfl, rfl, by omega⟩
theorem DuoStep.before {w w1 w' : World} {D D' : Duo} (h : Below w.heap.size w w1) (hs : DuoStep w1 D w' D') : DuoStep w D w' D' :=
  ⟨hs.os.trans h.os, hs.tape.trans h.tape, hs.output.trans h.output, Nat.le_trans h.size hs.size, fun k hk hn => (hs.blk k (Nat.lt_of_lt_of_le hk h.size) hn).trans (h.block k hk), fun k hk => (hs.own k hk).imp id (fun h2 => Nat.le_trans h.size h2), hs.sb, hs.b, hs.made⟩

/-- Every path is short. -/
theorem path_short {p : List Str} (h : OkN p) (h5 : p.length ≤ 5) : (joinP p).length ≤ 44 := by
  have h1 : ∀ x ∈ p, x.length ≤ 8 := fun x hx => (isNameL_len (h.2 x hx)).2
  have h2 : ∀ (q : List Str), (∀ x ∈ q, x.length ≤ 8) → (joinP q).length ≤ 9 * q.length := by
    intro q
    induction q with
    | nil => intro _; simp [joinP]
    | cons x r ih =>
      intro hq
      have hx := hq x (by simp)
      cases r with
      | nil => simp only [joinP, List.length_cons, List.length_nil]; omega
      | cons y r =>
        have := ih (fun z hz => hq z (by simp [hz]))
        rw [joinP_cons (by simp), List.length_append, List.length_cons, List.length_cons]; omega
  cases p with
  | nil => simp [joinP]
  | cons x r =>
    cases r with
    | nil => have := h1 x (by simp); simp only [joinP]; omega
    | cons y r =>
      have hx := h1 x (by simp)
      have h3 := h2 (y :: r) (fun z hz => h1 z (by simp [hz]))
      rw [joinP_cons (by simp), List.length_append, List.length_cons]
      simp only [List.length_cons] at h5 h3 ⊢
      have h4 : ∀ (q : List Str), q ≠ [] → (∀ x ∈ q, x.length ≤ 8) → (joinP q).length + 1 ≤ 9 * q.length := by
        intro q
        induction q with
        | nil => intro h; exact absurd rfl h
        | cons x r ih =>
          intro _ hq
          have hx := hq x (by simp)
          cases r with
          | nil => simp only [joinP, List.length_cons, List.length_nil]; omega
          | cons y r =>
            have := ih (by simp) (fun z hz => hq z (by simp [hz]))
            rw [joinP_cons (by simp), List.length_append, List.length_cons, List.length_cons]; omega
      have h6 := h4 (y :: r) (by simp) (fun z hz => h1 z (by simp [hz]))
      simp only [List.length_cons] at h6
      omega

end Go.Proofs.YtdcbgfhkfmohiaaGreatDoor

/- The law's edits. -/
namespace Go.Proofs.YtdcbgfhkfmohiaaGreatDoor
open Go.RowKit

def EditOut (w : World) (D : Duo) (e : Ending) (w' : World) : Prop := e = .returned (.bool true) ∧ ∃ D', DuoAt w' D' ∧ DuoStep w D w' D'

abbrev opV (K W N M : Int) (S T : Str) (L : Value) : Value := .agg #[.int .i64 K, .int .i64 W, .int .i64 N, .int .i64 M, SV S, SV T, L]
abbrev pairV (D : Duo) : Value := .agg #[ptrV D.B.sb, ptrV D.b]

/-- The boxed arguments. -/
structure ArgsAt (W : World) (h : Nat) (D : Duo) (K Wn N M : Int) (S T : Str) (L : Value) : Prop where
  pair : W.heap[h]? = some (.cells #[ptrV D.B.sb, ptrV D.b] 143 (0, 0))
  op : W.heap[h + 1]? = some (.cells #[.int .i64 K, .int .i64 Wn, .int .i64 N, .int .i64 M, SV S, SV T, L] 78 (0, 0))

theorem ArgsAt.ext {W W2 : World} {h : Nat} {D : Duo} {K Wn N M : Int} {S T : Str} {L : Value} {B' : Bank} (hA : ArgsAt W h D K Wn N M S T L) (hX : Ext W.heap.size W D.B W2 B') (hown : ∀ k, D.B.own k → k < h) : ArgsAt W2 h D K Wn N M S T L :=
  ⟨(hX.blk _ (Array.getElem?_eq_some_iff.1 hA.pair).1 (fun ho => by have := hown _ ho; omega)).trans hA.pair, (hX.blk _ (Array.getElem?_eq_some_iff.1 hA.op).1 (fun ho => by have := hown _ ho; omega)).trans hA.op⟩

end Go.Proofs.YtdcbgfhkfmohiaaGreatDoor

/- The law's world: pick, made. -/
namespace Go.Proofs.YtdcbgfhkfmohiaaGreatDoor
open Go.RowKit

def InI (c : Int) : Prop := -9223372036854775808 ≤ c ∧ c < 9223372036854775808
def pickN (c : Int) (n : Nat) : Nat := ((if c < 0 then -(c + 1) else c) % (n : Int)).toNat
/-- Pairs, side by side. -/
def flatP (Ds : List Duo) : List Value := Ds.flatMap fun D => [ptrV D.B.sb, ptrV D.b]
theorem flatP_app (Ds : List Duo) (D : Duo) : flatP (Ds ++ [D]) = flatP Ds ++ [ptrV D.B.sb, ptrV D.b] := by simp [flatP]
/-- All stores so far, in the world in block g; m: how many steps there were. -/
structure LawAt (base : Nat) (w : World) (g : Nat) (v : Value) (Ds : List Duo) (m : Nat) : Prop where
  blk : w.heap[g]? = some (.cells #[v] 75 (0, 0))
  row : w.ownsRow base 143 2 v Ds.length (flatP Ds)
  duos : ∀ D ∈ Ds, DuoAt w D
  apart : Ds.Pairwise fun D E => ∀ k, D.own k → ¬ E.own k
  free : ∀ D ∈ Ds, ∀ k, D.own k → k ≠ g ∧ v.ownBlock ≠ some k ∧ base ≤ k
  gb : base ≤ g
  made : ∀ D ∈ Ds, D.r.made ≤ m
  len : Ds.length ≤ m
  mx : MaxOk w
  mb : 0 < base

theorem LawAt.sep {base : Nat} {w : World} {g : Nat} {v : Value} {Ds : List Duo} {m : Nat} (h : LawAt base w g v Ds m) : v.ownBlock ≠ some g := by
  intro e
  obtain ⟨c, hc⟩ := row_type h.row e
  rw [h.blk] at hc; simp at hc

/-- One store more. -/
theorem LawAt.more {base : Nat} {w w2 w3 w5 : World} {g : Nat} {v v' : Value} {Ds : List Duo} {m : Nat} {D : Duo} (h : LawAt base w g v Ds m) (hb : Below w.heap.size w w2) (hD : DuoAt w2 D) (hn : ∀ k, D.own k → w.heap.size ≤ k) (hm : D.r.made ≤ m + 1)
    (hrow : w3.ownsRow base 143 2 v' (Ds.length + 1) (flatP Ds ++ [ptrV D.B.sb, ptrV D.b])) (hg : w2.grownBy w3 v.ownBlock) (hmv : Moved w2 v v') (hs : Set1 w3 w5 g (.cells #[v'] 75 (0, 0))) : LawAt base w5 g v' (Ds ++ [D]) (m + 1) ∧ Below base w w5 := by
  have hgl : g < w.heap.size := (Array.getElem?_eq_some_iff.1 h.blk).1
  have hbase : base ≤ w.heap.size := by have := h.gb; omega
  have hvl : ∀ k, v.ownBlock = some k → base ≤ k ∧ k < w.heap.size := fun k hk => h.row.lt k hk
  have hown2 : ∀ E ∈ Ds ++ [D], ∀ k, E.own k → k ≠ g ∧ v.ownBlock ≠ some k ∧ base ≤ k ∧ k < w2.heap.size := by
    intro E hE k hk
    simp only [List.mem_append, List.mem_singleton] at hE
    rcases hE with hE | rfl
    · have h1 := h.free E hE k hk
      have h2 := (h.duos E hE).own_lt hk
      have := hb.size
      exact ⟨h1.1, h1.2.1, h1.2.2, by omega⟩
    · have h1 := hn k hk
      have h2 := hD.own_lt hk
      exact ⟨by omega, fun e => by have := hvl k e; omega, by omega, h2⟩
  have hsame : ∀ k, k < w2.heap.size → k ≠ g → v.ownBlock ≠ some k → w5.heap[k]? = w2.heap[k]? := fun k h1 h2 h3 => (hs.other k h2).trans (hg.block k h1 (Ne.symm h3))
  have hv' : v'.ownBlock ≠ some g := by
    intro e
    rcases hmv g e with h1 | h1
    · exact h.sep h1
    · have := hb.size; omega
  have hBel : Below base w w5 := by
    refine ⟨hs.os.trans (hg.os.trans hb.os), hs.tape.trans (hg.tape.trans hb.tape), hs.output.trans (hg.output.trans hb.output), by rw [hs.size]; exact Nat.le_trans hb.size hg.size, ?_⟩
    intro k hk
    have h1 : k ≠ g := by have := h.gb; omega
    have h2 : v.ownBlock ≠ some k := fun e => by have := (hvl k e).1; omega
    rw [hsame k (by have := hb.size; omega) h1 h2, hb.block k (by omega)]
  refine ⟨⟨hs.here, ?_, ?_, ?_, ?_, h.gb, ?_, ?_, h.mx.below hBel h.mb, h.mb⟩, hBel⟩
  · rw [List.length_append, flatP_app]
    exact rowKept hrow (fun k hk => hs.other k (fun e => hv' (e ▸ hk)))
  · intro E hE
    have h2 : DuoAt w2 E := by
      have hE' := hE
      simp only [List.mem_append, List.mem_singleton] at hE
      rcases hE with hE | rfl
      · exact (h.duos E hE).frame fun k hk => hb.block k ((h.duos E hE).own_lt hk)
      · exact hD
    exact h2.frame fun k hk => by have h3 := hown2 E hE k hk; exact hsame k h3.2.2.2 h3.1 h3.2.1
  · rw [List.pairwise_append]
    refine ⟨h.apart, by simp, ?_⟩
    intro E hE F hF k hk hk2
    simp at hF; subst hF
    have h1 := (h.duos E hE).own_lt hk
    have h2 := hn k hk2
    omega
  · intro E hE k hk
    have h3 := hown2 E hE k hk
    refine ⟨h3.1, fun e => ?_, h3.2.2.1⟩
    rcases hmv k e with h1 | h1
    · exact h3.2.1 h1
    · omega
  · intro E hE
    simp only [List.mem_append, List.mem_singleton] at hE
    rcases hE with hE | rfl
    · have := h.made E hE; omega
    · exact hm
  · rw [List.length_append]; have := h.len; simp; omega

end Go.Proofs.YtdcbgfhkfmohiaaGreatDoor

/- The law's made. -/
namespace Go.Proofs.YtdcbgfhkfmohiaaGreatDoor
open Go.RowKit

theorem LawAt.mono {base : Nat} {w : World} {g : Nat} {v : Value} {Ds : List Duo} {m m' : Nat} (h : LawAt base w g v Ds m) (hm : m ≤ m') : LawAt base w g v Ds m' :=
  ⟨h.blk, h.row, h.duos, h.apart, h.free, h.gb, fun D hD => Nat.le_trans (h.made D hD) hm, Nat.le_trans h.len hm, h.mx, h.mb⟩
theorem LawAt.below {base : Nat} {w w' : World} {g : Nat} {v : Value} {Ds : List Duo} {m : Nat} (h : LawAt base w g v Ds m) (hb : Below w.heap.size w w') : LawAt base w' g v Ds m :=
  ⟨(hb.block g (Array.getElem?_eq_some_iff.1 h.blk).1).trans h.blk, rowKept h.row (fun k hk => hb.block k (h.row.lt k hk).2), fun D hD => (h.duos D hD).frame fun k hk => hb.block k ((h.duos D hD).own_lt hk), h.apart, h.free, h.gb, h.made, h.len, h.mx.later hb, h.mb⟩

def MadeOut (base : Nat) (w : World) (g : Nat) (Ds : List Duo) (m : Nat) (e : Ending) (w' : World) : Prop := e = .returned (.bool true) ∧ ∃ v' D, LawAt base w' g v' (Ds ++ [D]) (m + 1) ∧ Below base w w'

end Go.Proofs.YtdcbgfhkfmohiaaGreatDoor

/- The law's step. -/
namespace Go.Proofs.YtdcbgfhkfmohiaaGreatDoor
open Go.RowKit

def LawOut (base : Nat) (w : World) (g : Nat) (m : Nat) (e : Ending) (w' : World) : Prop := e = .returned (.bool true) ∧ ∃ v' Ds', LawAt base w' g v' Ds' (m + 1) ∧ Ds' ≠ [] ∧ Below base w w'

/-- One pair has gone on. -/
theorem LawAt.turn {base : Nat} {w w' : World} {g : Nat} {v : Value} {Ds : List Duo} {m k : Nat} {D' : Duo} (h : LawAt base w g v Ds m) (hk : k < Ds.length) (hD : DuoAt w' D') (hS : DuoStep w Ds[k] w' D') : LawAt base w' g v (Ds.set k D') (m + 1) ∧ Below base w w' := by
  have hgl : g < w.heap.size := (Array.getElem?_eq_some_iff.1 h.blk).1
  have hmem : Ds[k] ∈ Ds := List.getElem_mem hk
  have hfr := h.free _ hmem
  have hbase : base ≤ w.heap.size := by have := h.gb; omega
  have hoth : ∀ j (hj : j < Ds.length), j ≠ k → ∀ x, Ds[j].own x → ¬ Ds[k].own x := by
    intro j hj hne x h1 h2
    rcases Nat.lt_or_gt_of_ne hne with hlt | hgt
    · exact (List.pairwise_iff_getElem.1 h.apart j k hj hk hlt) x h1 h2
    · exact (List.pairwise_iff_getElem.1 h.apart k j hk hj hgt) x h2 h1
  have hnew : ∀ x, D'.own x → x ≠ g ∧ v.ownBlock ≠ some x ∧ base ≤ x := by
    intro x hx
    rcases hS.own x hx with h1 | h1
    · exact hfr x h1
    · exact ⟨by omega, fun e => by have := (h.row.lt x e).2; omega, by omega⟩
  have hcross : ∀ j (hj : j < Ds.length), j ≠ k → ∀ x, Ds[j].own x → ¬ D'.own x := by
    intro j hj hne x h1 h2
    rcases hS.own x h2 with h3 | h3
    · exact hoth j hj hne x h1 h3
    · have := (h.duos _ (List.getElem_mem hj)).own_lt h1; omega
  have hflat : flatP (Ds.set k D') = flatP Ds := by
    unfold flatP
    have : (Ds.set k D').map (fun D => [ptrV D.B.sb, ptrV D.b]) = Ds.map (fun D => [ptrV D.B.sb, ptrV D.b]) := by
      rw [List.map_set]
      apply List.ext_getElem?
      intro i
      by_cases e : k = i
      · subst e
        rw [List.getElem?_set_self (by simpa using hk), List.getElem?_map, List.getElem?_eq_getElem hk]
        simp [hS.sb, hS.b]
      · rw [List.getElem?_set_ne e]
    rw [List.flatMap_def, List.flatMap_def, this]
  have hBel : Below base w w' := ⟨hS.os, hS.tape, hS.output, hS.size, fun x hx => hS.blk x (by omega) (fun ho => by have := (hfr x ho).2.2; omega)⟩
  refine ⟨⟨(hS.blk g hgl (fun ho => (hfr g ho).1 rfl)).trans h.blk, ?_, ?_, ?_, ?_, h.gb, ?_, ?_, h.mx.below hBel h.mb, h.mb⟩, hBel⟩
  · rw [hflat, List.length_set]
    exact rowKept h.row (fun x hx => hS.blk x (h.row.lt x hx).2 (fun ho => (hfr x ho).2.1 hx))
  · intro E hE
    obtain ⟨j, hj, rfl⟩ := List.getElem_of_mem hE
    rw [List.length_set] at hj
    by_cases e : k = j
    · subst e; rw [List.getElem_set_self]; exact hD
    · rw [List.getElem_set_ne e]
      exact (h.duos _ (List.getElem_mem hj)).frame fun x hx => hS.blk x ((h.duos _ (List.getElem_mem hj)).own_lt hx) (hoth j hj (Ne.symm e) x hx)
  · rw [List.pairwise_iff_getElem]
    intro i j hi hj hij x h1 h2
    rw [List.length_set] at hi hj
    by_cases e1 : k = i
    · subst e1
      rw [List.getElem_set_self] at h1
      rw [List.getElem_set_ne (by omega)] at h2
      exact hcross j hj (by omega) x h2 h1
    · rw [List.getElem_set_ne e1] at h1
      by_cases e2 : k = j
      · subst e2
        rw [List.getElem_set_self] at h2
        exact hcross i hi (Ne.symm e1) x h1 h2
      · rw [List.getElem_set_ne e2] at h2
        exact (List.pairwise_iff_getElem.1 h.apart i j hi hj hij) x h1 h2
  · intro E hE x hx
    obtain ⟨j, hj, rfl⟩ := List.getElem_of_mem hE
    rw [List.length_set] at hj
    by_cases e : k = j
    · subst e; rw [List.getElem_set_self] at hx; exact hnew x hx
    · rw [List.getElem_set_ne e] at hx; exact h.free _ (List.getElem_mem hj) x hx
  · intro E hE
    obtain ⟨j, hj, rfl⟩ := List.getElem_of_mem hE
    rw [List.length_set] at hj
    by_cases e : k = j
    · subst e; rw [List.getElem_set_self]; have := hS.made; have := h.made _ hmem; omega
    · rw [List.getElem_set_ne e]; have := h.made _ (List.getElem_mem hj); omega
  · rw [List.length_set]; have := h.len; omega

/-- What asks answers, where it is asked. -/
def AsksOk (K Wn N M : Int) (S T : Str) (L : Value) : Prop := 6 < K → K ≤ 11 → ∀ D w, DuoAt w D → D.r.made < 4611686018427387904 → MaxOk w → Calls Tryz.prog 70 #[pairV D, opV K Wn N M S T L] w fun e w' => EditOut w D e w'

end Go.Proofs.YtdcbgfhkfmohiaaGreatDoor

/- The law's plays. -/
namespace Go.Proofs.YtdcbgfhkfmohiaaGreatDoor
open Go.RowKit

structure OpD where
  K : Int
  W : Int
  N : Int
  M : Int
  S : Str
  T : Str
  L : Value

def OpD.cells (o : OpD) : List Value := [.int .i64 o.K, .int .i64 o.W, .int .i64 o.N, .int .i64 o.M, SV o.S, SV o.T, o.L]
structure OpD.Ok (o : OpD) : Prop where
  w : InI o.W
  s : o.S.length + 1 < maxLen
  t : o.T.length + 1 < maxLen

theorem LawAt.slice {base : Nat} {w : World} {g : Nat} {v : Value} {Ds : List Duo} {m : Nat} (h : LawAt base w g v Ds m) (hne : Ds ≠ []) : ∃ g' cap, v = .slice (some ⟨g', 0, none⟩) Ds.length cap := by
  have hpos : 0 < Ds.length := List.length_pos_iff.2 hne
  rcases row_cells h.row with ⟨h3, h4⟩ | ⟨g', cap, h3, h4, _, h5, h6, h7⟩
  · omega
  · exact ⟨g', cap, h3⟩

end Go.Proofs.YtdcbgfhkfmohiaaGreatDoor

/- Same, on the document's side: what it says of two trees. -/
namespace Go.Proofs.YtdcbgfhkfmohiaaGreatDoor
open Go.RowKit

/-- The names of a place: none for the root. -/
def placeQ (p : Str) : List Str := if p = [47] then [] else splitL 47 p

theorem okN_free {q : List Str} (h : OkN q) : ∀ x ∈ q, Free x := fun x hx => (name_free (h.2 x hx)).1
theorem join_inj {p q : List Str} (hp : OkN p) (hq : OkN q) (h : joinP p = joinP q) : p = q := by
  rw [← split_join hp.1 (okN_free hp), ← split_join hq.1 (okN_free hq), h]

theorem data_at {es : Ents} {q : List Str} {d : Str} (h : WFE es) (hq : OkN q) (hs : sub (.dir es) q = some (.file d)) : dataAt (toF (filesE es)) (getI (toF (filesE es)) (joinP q)) = d := by
  have hv := (valid_files h).1
  have hf : fileAt (.dir es) q = some d := by unfold fileAt; rw [hs]
  have hm := (mem_root h q d).2 hf
  have hn : ¬ getI (toF (filesE es)) (joinP q) < 0 := fun hc => (get_names hv hq).1 hc _ hm rfl
  obtain ⟨k, hk, hlt⟩ := getI_lt (by omega : 0 ≤ getI (toF (filesE es)) (joinP q))
  have hg : getL (toF (filesE es)) (joinP q) = some k := by
    unfold getI at hk; split at hk
    · rename_i j hj; rw [hj]; congr 1; omega
    · omega
  unfold getL at hg
  rw [List.findIdx?_eq_some_iff_getElem] at hg
  obtain ⟨_, h1, _⟩ := hg
  have hl : k < (filesE es).length := by simpa [toF] using hlt
  have e1 : (toF (filesE es))[k] = (joinP (filesE es)[k].1, (filesE es)[k].2) := by simp [toF]
  rw [e1] at h1
  have h2 : joinP (filesE es)[k].1 = joinP q := by simpa using h1
  have h3 := join_inj (hv _ (List.getElem_mem hl)) hq h2
  have h4 := (mem_root h (filesE es)[k].1 (filesE es)[k].2).1 (List.getElem_mem hl)
  rw [h3, hf] at h4
  unfold dataAt
  rw [hk]
  simp only [Int.toNat_natCast]
  rw [List.getElem?_eq_getElem hlt, e1]
  exact (Option.some.inj h4).symm

theorem in_root {es : Ents} (h : WFE es) : inL (toF (filesE es)) [47] = toF (filesE es) := by
  have hv := (valid_files h).1
  have : ∀ l : List NF, ValidN l → inL (toF l) [47] = toF l := by
    intro l
    induction l with
    | nil => intro _; rfl
    | cons f l ih =>
      intro hl
      have h1 := ih (fun g hg => hl g (by simp [hg]))
      have h2 : belowL (joinP f.1) [47] = joinP f.1 := by unfold belowL; rw [if_pos rfl]
      have h3 : (joinP f.1).isEmpty = false := by
        cases hj : joinP f.1 with
        | cons a r => rfl
        | nil =>
          have hf := hl f (by simp)
          have := split_join hf.1 (okN_free hf)
          rw [hj] at this
          have hm := hf.2 [] (by rw [← this]; decide)
          have := (isNameL_len hm).1
          simp at this
      unfold inL at h1 ⊢
      simp only [toF, List.map_cons, List.flatMap_cons] at h1 ⊢
      rw [h2, h3, h1]
      rfl
  exact this _ hv

theorem get_root {es : Ents} (h : WFE es) : getI (toF (filesE es)) [47] < 0 := by
  have hv := (valid_files h).1
  rw [getI_miss]
  · decide
  · intro j hj
    have hl : j < (filesE es).length := by simpa [toF] using hj
    have e1 : (toF (filesE es))[j] = (joinP (filesE es)[j].1, (filesE es)[j].2) := by simp [toF]
    rw [e1]
    have hf := hv _ (List.getElem_mem hl)
    have hs := split_join hf.1 (okN_free hf)
    simp only [beq_eq_false_iff_ne, ne_eq]
    intro hc
    rw [hc] at hs
    have hm := hf.2 [] (by rw [← hs]; decide)
    have := (isNameL_len hm).1
    simp at this

theorem look_file : ∀ {q : List Str} {t : Tree} {d : Str}, sub t q = some (.file d) → look (some t) q = .atFile := by
  intro q
  induction q with
  | nil => intro t d h; simp only [sub, Option.some.injEq] at h; subst h; simp [look]
  | cons x r ih =>
    intro t d h
    cases t with
    | file e => simp [sub] at h
    | dir es =>
      rw [sub] at h; rw [look]
      cases hf : findE es x with
      | none => rw [hf] at h; simp at h
      | some u => rw [hf] at h; exact ih h
theorem look_dir : ∀ {q : List Str} {t : Tree} {c : Ents}, sub t q = some (.dir c) → look (some t) q = .atDir := by
  intro q
  induction q with
  | nil => intro t d h; simp only [sub, Option.some.injEq] at h; subst h; simp [look]
  | cons x r ih =>
    intro t d h
    cases t with
    | file e => simp [sub] at h
    | dir es =>
      rw [sub] at h; rw [look]
      cases hf : findE es x with
      | none => rw [hf] at h; simp at h
      | some u => rw [hf] at h; exact ih h

/-- What Same answers of two trees at a place. -/
theorem same_pure {a b : Ents} {p : Str} (ha : WFE a) (hb : WFE b) (hp : isPlaceL p = true) :
    ((sub (.dir a) (placeQ p) = none ∨ sub (.dir b) (placeQ p) = none) → sameF (toF (filesE a)) (toF (filesE b)) p = (false, 6)) ∧
    ∀ t t', sub (.dir a) (placeQ p) = some t → sub (.dir b) (placeQ p) = some t' → ∀ c : Bool, (c = true ↔ t = t') → sameF (toF (filesE a)) (toF (filesE b)) p = (c, 0) := by
  by_cases hr : p = [47]
  · subst hr
    have e : placeQ [47] = [] := rfl
    rw [e]
    simp only [sub]
    refine ⟨fun h => by simp at h, ?_⟩
    rintro t t' h1 h2 c hc
    obtain rfl := Option.some.inj h1
    obtain rfl := Option.some.inj h2
    have g1 := get_root ha
    have g2 := get_root hb
    unfold sameF
    have d1 : ∀ l : List Fl, isDirL l [47] = true := fun l => rfl
    rw [if_neg (by simp [d1]), if_neg (by omega), if_pos ⟨d1 _, d1 _⟩, in_root ha, in_root hb]
    congr 1
    rw [Bool.eq_iff_iff, hc, beq_iff_eq]
    constructor
    · intro h; rw [spell_files_inj ha hb h]
    · intro h; rw [Tree.dir.inj h]
  · have hpt : isPathL p = true := by
      unfold isPlaceL at hp
      simp only [Bool.or_eq_true, beq_iff_eq] at hp
      exact hp.resolve_right hr
    obtain ⟨hq, hj, _⟩ := path_ok hpt
    have e : placeQ p = splitL 47 p := if_neg hr
    rw [e]
    have la := look_names ha hq
    have lb := look_names hb hq
    have sa := look_sub (.dir a) (splitL 47 p)
    have sb := look_sub (.dir b) (splitL 47 p)
    rw [hj] at la lb
    have nof : ∀ {es : Ents} , WFE es → (∀ t, sub (.dir es) (splitL 47 p) = some t → ((∃ d, t = .file d) ∧ 0 ≤ getI (toF (filesE es)) p ∧ isDirL (toF (filesE es)) p = false) ∨ ((∃ c, t = .dir c) ∧ getI (toF (filesE es)) p < 0 ∧ isDirL (toF (filesE es)) p = true)) ∧ (sub (.dir es) (splitL 47 p) = none → getI (toF (filesE es)) p < 0 ∧ isDirL (toF (filesE es)) p = false) := by
      intro es he
      have le := look_names he hq
      rw [hj] at le
      refine ⟨fun t ht => ?_, fun hn => ?_⟩
      · cases t with
        | file d =>
          left
          have hl : look (some (.dir es)) (splitL 47 p) = .atFile := look_file ht
          refine ⟨⟨d, rfl⟩, by have := le.1.1 hl; omega, ?_⟩
          cases hd : isDirL (toF (filesE es)) p with
          | false => rfl
          | true => have := le.2.1.2 hd; rw [hl] at this; cases this
        | dir c =>
          right
          have hl : look (some (.dir es)) (splitL 47 p) = .atDir := look_dir ht
          refine ⟨⟨c, rfl⟩, ?_, le.2.1.1 hl⟩
          refine Classical.byContradiction fun hc => ?_
          have := le.1.2 hc; rw [hl] at this; cases this
      · have se := look_sub (.dir es) (splitL 47 p)
        rw [hn] at se
        have hno : ¬ (look (some (.dir es)) (splitL 47 p) = .atFile ∨ look (some (.dir es)) (splitL 47 p) = .atDir) := fun h => by have := se.1 h; simp at this
        refine ⟨Classical.byContradiction fun hc => hno (.inl (le.1.2 hc)), ?_⟩
        cases hd : isDirL (toF (filesE es)) p with
        | false => rfl
        | true => exact absurd (.inr (le.2.1.2 hd)) hno
    refine ⟨?_, ?_⟩
    · intro h
      unfold sameF
      rw [if_pos]
      rcases h with h | h
      · exact .inl ((nof ha).2 h)
      · exact .inr ((nof hb).2 h)
    · intro t t' h1 h2 c hc
      unfold sameF
      rcases (nof ha).1 t h1 with ⟨⟨d, rfl⟩, g1, i1⟩ | ⟨⟨x, rfl⟩, g1, i1⟩ <;> rcases (nof hb).1 t' h2 with ⟨⟨d', rfl⟩, g2, i2⟩ | ⟨⟨x', rfl⟩, g2, i2⟩
      · rw [if_neg (by omega), if_pos ⟨g1, g2⟩]
        congr 1
        have e1 := data_at ha hq h1
        have e2 := data_at hb hq h2
        rw [hj] at e1 e2
        rw [e1, e2, Bool.eq_iff_iff, hc, beq_iff_eq]
        simp
      · rw [if_neg (by simp [i2]; omega), if_neg (by omega), if_neg (by simp [i1])]
        cases c with
        | false => rfl
        | true => have := hc.1 rfl; cases this
      · rw [if_neg (by simp [i1]; omega), if_neg (by omega), if_neg (by simp [i2])]
        cases c with
        | false => rfl
        | true => have := hc.1 rfl; cases this
      · rw [if_neg (by simp [i1, i2]), if_neg (by omega), if_pos ⟨i1, i2⟩]
        congr 1
        have e1 := in_files ha hq h1
        have e2 := in_files hb hq h2
        rw [hj] at e1 e2
        rw [e1.1, e2.1, Bool.eq_iff_iff, hc, beq_iff_eq]
        constructor
        · intro h; rw [spell_files_inj e1.2 e2.2 h]
        · intro h; rw [Tree.dir.inj h]

end Go.Proofs.YtdcbgfhkfmohiaaGreatDoor

/- Same. -/
namespace Go.Proofs.YtdcbgfhkfmohiaaGreatDoor
open Go.RowKit

def PlaceOut (w : World) (p : Str) (e : Ending) (w' : World) : Prop :=
  Below w.heap.size w w' ∧ ((isPlaceL p = false ∧ e = .returned (.slice none 0 0)) ∨ (isPlaceL p = true ∧ ∃ a n c, e = .returned (.slice (some a) n c) ∧ NamesAt w' (.slice (some a) n c) (placeQ p)))

set_option maxHeartbeats 1000000 in
theorem namesOrRoot_any (p : Str) (w : World) (hp : p.length + 1 < maxLen) :
    Calls Tryz.prog 50 #[SV p] w fun e w' => PlaceOut w p e w' := by
  have hp0 := hp
  by_cases hr : p = [47]
  · subst hr
    go_enter Tryz.func50, Tryz.ntmps50
    go_wp2
    go_ret
    exact ⟨(Below.refl _ _).alloc (Nat.le_refl _) _, .inr ⟨rfl, _, _, _, rfl, ⟨_, _, rfl, Nat.le_refl _, by unfold maxLen; omega, fun k hk => by simp [placeQ] at hk⟩⟩⟩
  · have e1 : placeQ p = splitL 47 p := if_neg hr
    have e2 : isPlaceL p = isPathL p := by unfold isPlaceL; simp [hr]
    have hb : (p == [47]) = false := by simp [hr]
    go_enter Tryz.func50, Tryz.ntmps50
    go_wp2_with fail
    refine (namesOf_any p _ hp0).mono ?_
    rintro e w1 ⟨hb1, ⟨hpf, rfl⟩ | ⟨hpt, a, nn, c, rfl, hn1⟩⟩
    · have R : Hid (PlaceOut w p (.returned (.slice none 0 0)) w1) := ⟨hb1, .inl ⟨e2.trans hpf, rfl⟩⟩
      clear hb1 hpf
      go_wp2
      go_ret
      exact R.out
    · have R : Hid (PlaceOut w p (.returned (.slice (some a) nn c)) w1) := ⟨hb1, .inr ⟨e2.trans hpt, a, nn, c, rfl, by rw [e1]; exact hn1⟩⟩
      clear hb1 hpt hn1
      go_wp2
      go_ret
      exact R.out

/-- A value that stands for a tree of kept nodes is that tree's own. -/
theorem rep_own {w : World} {B : Bank} (hB : BankAt w B) {v : Value} {t : Tree} (h : RepT w (fun b _ => B.reg b) v t) : v = valT B.ad t ∧ B.has t := by
  cases h with
  | file hf hq =>
    obtain ⟨h1, h2⟩ := reg_file hB hf hq
    exact ⟨(congrArg fileV h2).symm, h1⟩
  | dir hd hq he =>
    obtain ⟨h1, h2⟩ := reg_dir hB hd he hq hq
    exact ⟨(congrArg dirV h2).symm, h1⟩
theorem rep_kept_root {w : World} {B : Bank} (hB : BankAt w B) {es : Ents} (h : es ∈ B.ds) : RepT w (fun b _ => B.reg b) (dirV (B.ad (.dir es))) (.dir es) := by
  have h1 := rep_has hB w.heap.size _ (.dir es) (Nat.le_refl _) h
  refine RepT.keep (fun b u vs hd hq => ⟨u, hd, hq (.inr (Array.getElem?_eq_some_iff.1 hd.2).1)⟩) (fun b u d hf hq => ⟨u, hf, hq (.inr ?_)⟩) h1
  exact (Array.getElem?_eq_some_iff.1 hf).1
theorem valT_inj {w : World} {B : Bank} (hB : BankAt w B) {t t' : Tree} (h : B.has t) (h' : B.has t') : valT B.ad t = valT B.ad t' ↔ t = t' := by
  refine ⟨fun e => ?_, fun e => by rw [e]⟩
  cases t <;> cases t' <;> unfold valT at e <;> simp only [Value.iface.injEq, Value.pointer.injEq, Option.some.injEq, Addr.mk.injEq] at e
  · exact hB.same h h' e.2.1
  · exact absurd e.1 (by decide)
  · exact absurd e.1 (by decide)
  · exact hB.same h h' e.2.1

theorem iface_eq {w : World} {B : Bank} (hB : BankAt w B) {t t' : Tree} (h : B.has t) (h' : B.has t') : ∃ c : Bool, (binOp .eql 99 (valT B.ad t) (valT B.ad t')).run Tryz.prog w = .ok (.bool c) w ∧ (c = true ↔ t = t') := by
  obtain ⟨r, h1, h2⟩ := node_eq (w := w) 9998 (hB.node h) (hB.node h')
  refine ⟨r, ?_, h2.trans (valT_inj hB h h')⟩
  cases t <;> cases t' <;> (unfold valT at h1 ⊢; simp only [binOp]; simp [Op.equal, Op.maxDepth, h1])

theorem sameR_none1 {r : RSt} {n m : Int} {p : Str} (h : findL r.all n = none) : sameR r n m p = (false, 2) := by unfold sameR; rw [h]
theorem sameR_none2 {r : RSt} {n m : Int} {p : Str} (h : findL r.all m = none) : sameR r n m p = (false, 2) := by unfold sameR; rw [h]; split <;> simp_all
theorem sameR_path {r : RSt} {n m : Int} {p : Str} {l k : List Fl} (h : findL r.all n = some l) (h' : findL r.all m = some k) (hp : isPlaceL p = false) : sameR r n m p = (false, 3) := by unfold sameR; rw [h, h']; simp [hp]
theorem sameR_go {r : RSt} {n m : Int} {p : Str} {l k : List Fl} (h : findL r.all n = some l) (h' : findL r.all m = some k) (hp : isPlaceL p = true) : sameR r n m p = sameF l k p := by unfold sameR; rw [h, h']; simp [hp]

/-- A look-up of a store's snapshots, whatever the number. -/
theorem snap_any {w : World} {B : Bank} {r : RSt} (hO : Okay w B) (ha : Agree B r) (n : Int) :
    ∃ v, (∀ W, (∃ k, W = w.drewN k) → (Instr.lookup 82 (.map (some B.rs)) (.int .i64 n) false).run Tryz.prog W = .ok v W) ∧ ((v = .pointer none ∧ findL r.all n = none) ∨ ∃ es k, (k, es) ∈ B.ss ∧ v = ptrV (B.ad (.dir es)) ∧ findL r.all n = some (toF (filesE es))) := by
  have hW : ∀ W, (∃ k, W = w.drewN k) → BankAt W B := by rintro W ⟨k, rfl⟩; exact hO.at'.frame fun _ _ => rfl
  rcases find_agree ha n with ⟨hf, hno⟩ | ⟨k, es, hk, rfl, hf⟩
  · exact ⟨_, fun W h => snap_none (hW W h) hno, .inl ⟨rfl, hf⟩⟩
  · exact ⟨_, fun W h => snap_look (hW W h) hk, .inr ⟨es, k, hk, rfl, hf⟩⟩

set_option maxHeartbeats 8000000 in
set_option maxRecDepth 50000 in
theorem storeSame_any (B : Bank) (r : RSt) (n m : Int) (p : Str) (w : World) (hO : Okay w B) (ha : Agree B r) (hp : p.length + 1 < maxLen) :
    Calls Tryz.prog 29 #[ptrV B.sb, .int .i64 n, .int .i64 m, SV p] w fun e w' => SameOut w (sameR r n m p) e w' := by
  have s2 : w.cell? ⟨B.sb, 2, none⟩ = some (.map (some B.rs)) := (blk_cell hO.at'.store 2).trans rfl
  obtain ⟨v1, hl1, h1⟩ := snap_any hO ha n
  obtain ⟨v2, hl2, h2⟩ := snap_any hO ha m
  have L1 : Hid _ := hl1
  have L2 : Hid _ := hl2
  have H1 : Hid _ := h1
  have H2 : Hid _ := h2
  have HO : Hid _ := hO
  have hpm := hp
  clear hl1 hl2 h1 h2 hO ha
  go_enter Tryz.func29, Tryz.ntmps29
  go_wp2
  refine wp_region_quiet_lit (by kernel_rfl) (by kernel_rfl) ?_
  quiet_step (fail)
  quiet_step (fail)
  quiet_step (fail)
  quiet_step (fail)
  quiet_step (fail)
  refine quiet_lookup rfl 82 (.tmp 20) (.tmp 21) rfl _ _ _ rfl rfl (fun W hW => L1.out W hW) ?_
  quiet_step (fail)
  quiet_step (fail)
  quiet_step (fail)
  quiet_step (fail)
  quiet_step (fail)
  refine quiet_lookup rfl 82 (.tmp 26) (.tmp 27) rfl _ _ _ rfl rfl (fun W hW => L2.out W hW) ?_
  quiet_step (fail)
  quiet_step (fail)
  refine wpQuiet_nil ?_
  intro _ hw'
  obtain ⟨nq, hw''⟩ := hw'
  subst hw''
  have HBq : Hid (Below w.heap.size w (w.drewN nq)) := below_drewN (Below.refl _ _) _
  have HOq : Hid (Okay (w.drewN nq) B) := HO.out.frame fun _ _ => rfl
  have HSz : Hid ((w.drewN nq).heap.size = w.heap.size) := rfl
  clear s2 L1 L2
  generalize w.drewN nq = wq at *
  rcases H1.out with ⟨rfl, hf1⟩ | ⟨es1, k1, hk1, rfl, hf1⟩
  · have R : Hid (SameOut w (sameR r n m p) (.returned (.tuple #[.bool false, .int .i64 2])) wq) := by rw [Hid, sameR_none1 hf1]; exact ⟨rfl, HBq.out⟩
    clear H1 H2 HO HBq hf1
    go_wp2
    go_ret2
    exact R.out
  · rcases H2.out with ⟨rfl, hf2⟩ | ⟨es2, k2, hk2, rfl, hf2⟩
    · have R : Hid (SameOut w (sameR r n m p) (.returned (.tuple #[.bool false, .int .i64 2])) wq) := by rw [Hid, sameR_none2 hf2]; exact ⟨rfl, HBq.out⟩
      clear H1 H2 HO HBq hf1 hf2 hk1
      generalize B.ad (.dir es1) = b1 at *
      go_wp2
      go_ret2
      exact R.out
    · have HF1 : Hid _ := hf1
      have HF2 : Hid _ := hf2
      have hwf1 : WFE es1 := (HO.out.wf _ hk1).1
      have hwf2 : WFE es2 := (HO.out.wf _ hk2).1
      have HR1 : Hid (RepT wq (fun b _ => B.reg b) (dirV (B.ad (.dir es1))) (.dir es1)) := rep_kept_root HOq.out.at' (HOq.out.at'.roots _ hk1)
      have HR2 : Hid (RepT wq (fun b _ => B.reg b) (dirV (B.ad (.dir es2))) (.dir es2)) := rep_kept_root HOq.out.at' (HOq.out.at'.roots _ hk2)
      clear H1 H2 hf1 hf2 hk1 hk2 HO
      generalize B.ad (.dir es1) = b1 at *
      generalize B.ad (.dir es2) = b2 at *
      have hsn := slice_some
      have hs0 := slice_none
      have hin := iface_some
      have hi0 := iface_none
      go_wp2_with fail
      refine (namesOrRoot_any p _ hpm).mono ?_
      rintro e w1 ⟨hb1, ⟨hpf, rfl⟩ | ⟨hpt, a, nn, c, rfl, hn1⟩⟩
      · have R : Hid (SameOut w (sameR r n m p) (.returned (.tuple #[.bool false, .int .i64 3])) w1) := by rw [Hid, sameR_path HF1.out HF2.out hpf]; exact ⟨rfl, HBq.out.trans (hb1.mono (by rw [HSz.out]; exact Nat.le_refl _))⟩
        clear hpf hb1
        go_wp2
        go_ret2
        exact R.out
      · have HG : Hid (sameR r n m p = sameF (toF (filesE es1)) (toF (filesE es2)) p) := sameR_go HF1.out HF2.out hpt
        have HP : Hid _ := same_pure hwf1 hwf2 hpt
        have HB1 : Hid (Below w.heap.size w w1) := HBq.out.trans (hb1.mono (by rw [HSz.out]; exact Nat.le_refl _))
        have HN1 : Hid (NamesAt w1 (.slice (some a) nn c) (placeQ p)) := hn1
        have HO1 : Hid (Okay w1 B) := HOq.out.below hb1
        have CL : Hid (Calls Tryz.prog 51 #[dirV b1, .slice (some a) nn c] w1 fun e w' => LookOut w' (fun b _ => B.reg b) (some (.dir es1)) (placeQ p) e ∧ Below w1.heap.size w1 w') :=
          look_any (fun b _ => B.reg b) (placeQ p) (some (.dir es1)) _ _ w1 (HR1.out.later hb1 (Nat.le_refl _)) hwf1 hn1
        have HR2' : Hid (RepT w1 (fun b _ => B.reg b) (dirV b2) (.dir es2)) := HR2.out.later hb1 (Nat.le_refl _)
        clear hb1 hn1 hpt HF1 HF2 HR1 HR2 HOq HBq HSz
        go_wp2_with fail
        refine CL.out.mono ?_
        rintro e w2 ⟨⟨va, rfl, hr1⟩, hb2⟩
        have HB2 : Hid (Below w.heap.size w w2) := HB1.out.trans (hb2.mono HB1.out.size)
        have HO2 : Hid (Okay w2 B) := HO1.out.below hb2
        have CL2 : Hid (Calls Tryz.prog 51 #[dirV b2, .slice (some a) nn c] w2 fun e w' => LookOut w' (fun b _ => B.reg b) (some (.dir es2)) (placeQ p) e ∧ Below w2.heap.size w2 w') :=
          look_any (fun b _ => B.reg b) (placeQ p) (some (.dir es2)) _ _ w2 (HR2'.out.later hb2 (Nat.le_refl _)) hwf2 (names_below HN1.out hb2 (Nat.le_refl _))
        have HV1 : Hid (RepO w2 (fun b _ => B.reg b) va ((some (Tree.dir es1)).bind fun t => sub t (placeQ p))) := hr1
        clear hb2 hr1 CL HN1 HR2' HO1 HB1
        generalize placeN (look (some (.dir es1)) (placeQ p)) = pl1 at *
        go_wp2_with fail
        refine CL2.out.mono ?_
        rintro e w3 ⟨⟨vb, rfl, hr2⟩, hb3⟩
        have HB3 : Hid (Below w.heap.size w w3) := HB2.out.trans (hb3.mono HB2.out.size)
        have hO3 : Okay w3 B := HO2.out.below hb3
        generalize placeN (look (some (.dir es2)) (placeQ p)) = pl2 at *
        simp only [Option.bind_some] at hr2
        have hr1 := HV1.out
        simp only [Option.bind_some] at hr1
        cases hx1 : sub (.dir es1) (placeQ p) with
        | none =>
          rw [hx1] at hr1
          cases hr1
          have R : Hid (SameOut w (sameR r n m p) (.returned (.tuple #[.bool false, .int .i64 6])) w3) := by rw [Hid, HG.out, HP.out.1 (.inl hx1)]; exact ⟨rfl, HB3.out⟩
          clear hr2 hb3 hO3 HV1 CL2 hx1
          go_wp2
          go_ret2
          exact R.out
        | some t1 =>
          rw [hx1] at hr1
          obtain ⟨ve1, hh1⟩ := rep_own HO2.out.at' hr1
          cases hx2 : sub (.dir es2) (placeQ p) with
          | none =>
            rw [hx2] at hr2
            cases hr2
            obtain ⟨kk, bb, rfl⟩ := RepT.form hr1
            have R : Hid (SameOut w (sameR r n m p) (.returned (.tuple #[.bool false, .int .i64 6])) w3) := by rw [Hid, HG.out, HP.out.1 (.inr hx2)]; exact ⟨rfl, HB3.out⟩
            clear hr1 hb3 hO3 HV1 CL2 hx1 hx2 ve1 hh1
            go_wp2
            go_ret2
            exact R.out
          | some t2 =>
            rw [hx2] at hr2
            obtain ⟨ve2, hh2⟩ := rep_own hO3.at' hr2
            obtain ⟨cc, heq, hcc⟩ := iface_eq hO3.at' hh1 hh2
            rw [← ve1, ← ve2] at heq
            obtain ⟨kk, bb, rfl⟩ := RepT.form hr1
            obtain ⟨kk', bb', rfl⟩ := RepT.form hr2
            have R : Hid (SameOut w (sameR r n m p) (.returned (.tuple #[.bool cc, .int .i64 0])) w3) := by rw [Hid, HG.out, HP.out.2 t1 t2 hx1 hx2 cc hcc]; exact ⟨rfl, HB3.out⟩
            clear hr1 hr2 hb3 hO3 HV1 CL2 hx1 hx2 ve1 hh1 ve2 hh2 hcc
            go_wp2
            go_ret2
            exact R.out

end Go.Proofs.YtdcbgfhkfmohiaaGreatDoor

/- The law's asks: Same. -/
namespace Go.Proofs.YtdcbgfhkfmohiaaGreatDoor
open Go.RowKit

theorem ArgsAt.below {W W2 : World} {h : Nat} {D : Duo} {K Wn N M : Int} {S T : Str} {L : Value} (hA : ArgsAt W h D K Wn N M S T L) (hb : Below W.heap.size W W2) : ArgsAt W2 h D K Wn N M S T L :=
  ⟨(hb.block _ (Array.getElem?_eq_some_iff.1 hA.pair).1).trans hA.pair, (hb.block _ (Array.getElem?_eq_some_iff.1 hA.op).1).trans hA.op⟩

end Go.Proofs.YtdcbgfhkfmohiaaGreatDoor
