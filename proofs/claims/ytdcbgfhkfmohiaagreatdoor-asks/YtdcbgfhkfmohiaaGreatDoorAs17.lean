/- New. -/
import Derived.Test.YtdcbgfhkfmohiaaGreatDoorAs16
namespace Go.Proofs.YtdcbgfhkfmohiaaGreatDoor
open Go.RowKit

def NewOut (w : World) (c : Nat) (e : Ending) (w' : World) : Prop :=
  ∃ B : Bank, e = .returned (.tuple #[ptrV B.sb, .int .i64 0]) ∧ Okay w' B ∧ Agree B (newR c) ∧ Below w.heap.size w w' ∧ (∀ k, B.own k → w.heap.size ≤ k) ∧ w'.heap[B.rr]? = some (.map #[] 0) ∧ ¬ B.own B.rr ∧ w.heap.size ≤ B.rr

/-- A store with nothing in it. -/
def bank0 (h c : Nat) : Bank := { sb := h + 4, rs := h, rd := h + 1, rf := h + 2, rr := h + 3, room := c, made := 0, ds := [], fs := [], ss := [], ad := fun _ => 0, us := fun _ => 0 }

theorem okay0 {w : World} {h c : Nat} (hs : w.heap[h + 4]? = some (.cells #[.int .i64 c, .int .i64 0, .map (some h), .map (some (h + 1)), .map (some (h + 2)), .map (some (h + 3))] 87 (0, 0))) (h1 : w.heap[h]? = some (.map #[] 0)) (h2 : w.heap[h + 1]? = some (.map #[] 0)) (h3 : w.heap[h + 2]? = some (.map #[] 0)) (hc : c ≤ 200) : Okay w (bank0 h c) := by
  refine ⟨⟨hs, ⟨_, _, h1, rfl⟩, ⟨_, _, h2, rfl⟩, ⟨_, _, h3, rfl⟩, ?_, ?_, ?_, ?_, ?_, ?_, ?_, ?_⟩, ⟨?_, ?_, ?_, ?_⟩, ?_, ?_, ?_, ?_⟩
  · show h ≠ h + 1 ∧ h ≠ h + 2 ∧ h + 1 ≠ h + 2; omega
  · intro d hd; simp [bank0] at hd
  · intro d hd; simp [bank0] at hd
  · intro d hd; simp [bank0] at hd
  · intro d hd; simp [bank0] at hd
  · simp [bank0]
  · simp [bank0]
  · simp [bank0]
  · intro t ht; cases t <;> simp [bank0, Bank.has] at ht
  · intro t ht; cases t <;> simp [bank0, Bank.has] at ht
  · intro s hs; omega
  · intro t ht; cases t <;> simp [bank0, Bank.has] at ht
  · intro s hs; simp [bank0] at hs
  · simp [bank0]
  · show 0 + 0 ≤ c ∧ c ≤ 200; omega
  · intro s hs; simp [bank0] at hs

theorem newR_keep {c : Nat} (h : 1 ≤ c) : keepR ⟨c, 0, []⟩ (toF (filesE [])) = (newR c, 0, 0) := by
  rw [keepR_ok (by simp) (by
    have : cellsOf { limit := c, made := 0, all := [] ++ [(0, toF (filesE []))] } = 1 := by
      unfold cellsOf; simp only [filesE, toF]; rfl
    rw [this]; show ¬ c < 1; omega)]
  rfl

set_option maxHeartbeats 1000000 in
theorem storeNew_no (c : Int) (w : World) (h : c < 1 ∨ 200 < c) :
    Calls Tryz.prog 43 #[.int .i64 c] w fun e w' => e = .returned (.tuple #[.pointer none, .int .i64 1]) ∧ w' = w := by
  by_cases h1 : c < 1
  · go_enter Tryz.func43, Tryz.ntmps43
    go_wp2
    go_ret2
    exact ⟨rfl, rfl⟩
  · have h2 : 200 < c := by omega
    go_enter Tryz.func43, Tryz.ntmps43
    go_wp2
    go_ret2
    exact ⟨rfl, rfl⟩

theorem alloc6 (w : World) (o1 o2 o3 o4 o5 o6 : Obj) : ∃ W : World, W = (((((w.alloc o1).alloc o2).alloc o3).alloc o4).alloc o5).alloc o6 ∧ W.heap[w.heap.size]? = some o1 ∧ W.heap[w.heap.size + 1]? = some o2 ∧ W.heap[w.heap.size + 2]? = some o3 ∧ W.heap[w.heap.size + 3]? = some o4 ∧ W.heap[w.heap.size + 4]? = some o5 ∧ W.heap[w.heap.size + 5]? = some o6 ∧ Below w.heap.size w W := by
  refine ⟨_, rfl, ?_, ?_, ?_, ?_, ?_, ?_, ?_⟩
  · rw [Below.heap_alloc _ _ _ (by simp <;> omega), Below.heap_alloc _ _ _ (by simp <;> omega), Below.heap_alloc _ _ _ (by simp <;> omega), Below.heap_alloc _ _ _ (by simp <;> omega), Below.heap_alloc _ _ _ (by simp)]; exact heap_alloc_new _ _
  · rw [Below.heap_alloc _ _ _ (by simp <;> omega), Below.heap_alloc _ _ _ (by simp <;> omega), Below.heap_alloc _ _ _ (by simp <;> omega), Below.heap_alloc _ _ _ (by simp)]
    have := heap_alloc_new (w.alloc o1) o2; simpa using this
  · rw [Below.heap_alloc _ _ _ (by simp <;> omega), Below.heap_alloc _ _ _ (by simp <;> omega), Below.heap_alloc _ _ _ (by simp)]
    have := heap_alloc_new ((w.alloc o1).alloc o2) o3; simpa using this
  · rw [Below.heap_alloc _ _ _ (by simp <;> omega), Below.heap_alloc _ _ _ (by simp)]
    have := heap_alloc_new (((w.alloc o1).alloc o2).alloc o3) o4; simpa using this
  · rw [Below.heap_alloc _ _ _ (by simp)]
    have := heap_alloc_new ((((w.alloc o1).alloc o2).alloc o3).alloc o4) o5; simpa using this
  · have := heap_alloc_new (((((w.alloc o1).alloc o2).alloc o3).alloc o4).alloc o5) o6; simpa using this
  · exact (((((((Below.refl _ _).alloc (Nat.le_refl _) _).alloc (by simp) _).alloc (by simp <;> omega) _).alloc (by simp <;> omega) _).alloc (by simp <;> omega) _).alloc (by simp <;> omega) _)

set_option maxHeartbeats 2000000 in
theorem storeNew_any (c : Nat) (w : World) (h1 : 1 ≤ c) (h2 : c ≤ 200) : Calls Tryz.prog 43 #[.int .i64 (c : Int)] w fun e w' => NewOut w c e w' := by
  have hmm := @run_makeMap Tryz.prog
  have i1 : ¬ (c : Int) < 1 := by omega
  have i2 : ¬ (200 : Int) < (c : Int) := by omega
  go_enter Tryz.func43, Tryz.ntmps43
  go_wp2_with fail
  obtain ⟨W, hW, e1, e2, e3, e4, e5, e6, hb⟩ := alloc6 w (.map #[] 0) (.map #[] 0) (.map #[] 0) (.map #[] 0) (.cells #[.int .i64 (c : Int), .int .i64 0, .map (some w.heap.size), .map (some (w.heap.size + 1)), .map (some (w.heap.size + 1 + 1)), .map (some (w.heap.size + 1 + 1 + 1))] 87) (.cells (Value.int .i64 0 :: listCells []).toArray 149)
  have hO := okay0 (w := W) (h := w.heap.size) (c := c) e5 e1 e2 e3 h2
  have hd : DirAt W (w.heap.size + 5) 0 [] := ⟨by simp, e6⟩
  have hown : ∀ k, (bank0 w.heap.size c).own k → w.heap.size ≤ k := by
    intro k hk
    rcases hk with h | h | h | h | ⟨t, h, _⟩
    · have : k = w.heap.size + 4 := h; omega
    · have : k = w.heap.size := h; omega
    · have : k = w.heap.size + 1 := h; omega
    · have : k = w.heap.size + 2 := h; omega
    · cases t <;> simp [bank0, Bank.has] at h
  have hN5 : w.heap.size + 5 ≤ W.heap.size := Nat.le_of_lt (Array.getElem?_eq_some_iff.1 e6).1
  have C := storeAdd_any (w.heap.size + 5) (bank0 w.heap.size c) (w.heap.size + 5) 0 [] [] ⟨c, 0, []⟩ W hO ⟨rfl, rfl, rfl⟩ hd (fun h => by rcases h with h | h; exact absurd rfl h; omega) .nil hN5 trivial (by simp [filesE]) (by simp [heightE]) (by show (0 : Nat) < _; omega)
  rw [newR_keep h1] at C
  subst hW
  refine C.mono ?_
  rintro e w' ⟨B', rfl, hO', hA', hX'⟩
  have R : Hid (NewOut w c (.returned (.tuple #[ptrV (w.heap.size + 4), .int .i64 0])) w') := by
    have hsb : B'.sb = w.heap.size + 4 := hX'.four.1
    have hrr : B'.rr = w.heap.size + 3 := hX'.four.2.2.2.2
    have hno : ¬ (bank0 w.heap.size c).own (w.heap.size + 3) := by
      rintro (h | h | h | h | ⟨t, h, _⟩)
      · have : w.heap.size + 3 = w.heap.size + 4 := h; omega
      · have : w.heap.size + 3 = w.heap.size := h; omega
      · have : w.heap.size + 3 = w.heap.size + 1 := h; omega
      · have : w.heap.size + 3 = w.heap.size + 2 := h; omega
      · cases t <;> simp [bank0, Bank.has] at h
    refine ⟨B', by rw [hsb], hO', hA', ?_, fun k hk => (hX'.own k hk).elim (hown k) (fun h => by omega), ?_, ?_, by omega⟩
    · exact hb.trans ⟨hX'.os, hX'.tape, hX'.output, hX'.size, fun k hk => hX'.blk k (by omega) (fun ho => by have := hown k ho; omega)⟩
    · rw [hrr]; exact (hX'.blk _ (by omega) hno).trans e4
    · rw [hrr]; exact fun h => (hX'.own _ h).elim hno (fun h2 => by omega)
  clear hO' hA' hX' C hO hd hb e1 e2 e3 e4 e5 e6 hown hN5
  go_wp2
  go_ret2
  exact R.out

end Go.Proofs.YtdcbgfhkfmohiaaGreatDoor

/- A store of the program's beside the document's: their state, their frame. -/
namespace Go.Proofs.YtdcbgfhkfmohiaaGreatDoor
open Go.RowKit

structure Duo where
  B : Bank
  b : Nat
  r : RSt
  va : Value
  vr : Value
  sn : List (Nat × Value)

/-- The blocks of the document's store. -/
def Duo.docs (D : Duo) (k : Nat) : Prop := k = D.b ∨ D.va.ownBlock = some k ∨ ∃ x ∈ D.sn, x.2.ownBlock = some k
def Duo.own (D : Duo) (k : Nat) : Prop := D.B.own k ∨ D.docs k

structure DuoAt (w : World) (D : Duo) : Prop where
  ok : Okay w D.B
  ref : RefAt w D.b D.r D.va D.vr D.sn
  ag : Agree D.B D.r
  apart : ∀ k, D.B.own k → ¬ D.docs k

structure DuoStep (w : World) (D : Duo) (w' : World) (D' : Duo) : Prop where
  os : w'.os = w.os
  tape : w'.tape = w.tape
  output : w'.output = w.output
  size : w.heap.size ≤ w'.heap.size
  blk : ∀ k, k < w.heap.size → ¬ D.own k → w'.heap[k]? = w.heap[k]?
  own : ∀ k, D'.own k → D.own k ∨ w.heap.size ≤ k
  sb : D'.B.sb = D.B.sb
  b : D'.b = D.b
  made : D'.r.made ≤ D.r.made + 1

theorem BankAt.frame {w w' : World} {B : Bank} (h : BankAt w B) (hb : ∀ k, B.own k → w'.heap[k]? = w.heap[k]?) : BankAt w' B := by
  obtain ⟨m1, c1, h1, k1⟩ := h.snaps
  obtain ⟨m2, c2, h2, k2⟩ := h.dmap
  obtain ⟨m3, c3, h3, k3⟩ := h.fmap
  exact ⟨(hb _ (.inl rfl)).trans h.store, ⟨m1, c1, (hb _ (.inr (.inl rfl))).trans h1, k1⟩, ⟨m2, c2, (hb _ (.inr (.inr (.inl rfl)))).trans h2, k2⟩, ⟨m3, c3, (hb _ (.inr (.inr (.inr (.inl rfl))))).trans h3, k3⟩, h.apart,
    fun d hd => (hb _ (.inr (.inr (.inr (.inr ⟨.file d, hd, rfl⟩))))).trans (h.files d hd), fun es he => ⟨(h.dirs es he).1, (hb _ (.inr (.inr (.inr (.inr ⟨.dir es, he, rfl⟩))))).trans (h.dirs es he).2⟩, h.closed, h.roots, h.ndD, h.ndF, h.ndS⟩
theorem Okay.frame {w w' : World} {B : Bank} (h : Okay w B) (hb : ∀ k, B.own k → w'.heap[k]? = w.heap[k]?) : Okay w' B := ⟨h.at'.frame hb, h.calm, h.wf, h.few, h.room, h.nums⟩
theorem BankAt.own_lt {w : World} {B : Bank} (h : BankAt w B) {k : Nat} (hk : B.own k) : k < w.heap.size := by
  obtain ⟨m1, c1, h1, _⟩ := h.snaps
  obtain ⟨m2, c2, h2, _⟩ := h.dmap
  obtain ⟨m3, c3, h3, _⟩ := h.fmap
  rcases hk with rfl | rfl | rfl | rfl | ⟨t, ht, rfl⟩
  · exact (Array.getElem?_eq_some_iff.1 h.store).1
  · exact (Array.getElem?_eq_some_iff.1 h1).1
  · exact (Array.getElem?_eq_some_iff.1 h2).1
  · exact (Array.getElem?_eq_some_iff.1 h3).1
  · exact (Array.getElem?_eq_some_iff.1 (h.nodeO ht)).1

theorem rowKept {w w' : World} {base : Nat} {e : TypeId} {size n : Nat} {v : Value} {xs : List Value} (h : w.ownsRow base e size v n xs) (hb : ∀ k, v.ownBlock = some k → w'.heap[k]? = w.heap[k]?) : w'.ownsRow base e size v n xs := by
  refine ⟨h.1, ?_⟩
  rcases h.2 with h | ⟨g, cap, cur, rfl, h2, h3, h4⟩
  · exact .inl h
  · exact .inr ⟨g, cap, cur, rfl, h2, (hb g rfl).trans h3, h4⟩

theorem RefAt.frame {w w' : World} {D : Duo} (h : RefAt w D.b D.r D.va D.vr D.sn) (hb : ∀ k, D.docs k → w'.heap[k]? = w.heap[k]?) : RefAt w' D.b D.r D.va D.vr D.sn :=
  ⟨(hb _ (.inl rfl)).trans h.blk, rowKept h.row (fun k hk => hb k (.inr (.inl hk))), h.len, h.num, fun k h1 h2 => files_kept (h.fil k h1 h2) (fun j hj => hb j (.inr (.inr ⟨_, List.getElem_mem h1, hj⟩))), h.tiny, h.few, h.lim⟩
theorem RefAt.docs_lt {w : World} {D : Duo} (h : RefAt w D.b D.r D.va D.vr D.sn) {k : Nat} (hk : D.docs k) : k < w.heap.size := by
  rcases hk with rfl | hk | ⟨x, hx, hk⟩
  · exact (Array.getElem?_eq_some_iff.1 h.blk).1
  · exact (h.row.lt k hk).2
  · obtain ⟨i, hi, rfl⟩ := List.getElem_of_mem hx
    exact ((h.fil i hi (by rw [← h.len]; exact hi)).lt k hk).2

theorem DuoAt.frame {w w' : World} {D : Duo} (h : DuoAt w D) (hb : ∀ k, D.own k → w'.heap[k]? = w.heap[k]?) : DuoAt w' D :=
  ⟨h.ok.frame (fun k hk => hb k (.inl hk)), h.ref.frame (fun k hk => hb k (.inr hk)), h.ag, h.apart⟩
theorem DuoAt.own_lt {w : World} {D : Duo} (h : DuoAt w D) {k : Nat} (hk : D.own k) : k < w.heap.size := hk.elim (fun h1 => h.ok.at'.own_lt h1) (fun h1 => h.ref.docs_lt h1)

theorem DuoStep.of_below {w w' : World} {D : Duo} (h : Below w.heap.size w w') : DuoStep w D w' D :=
  ⟨h.os, h.tape, h.output, h.size, fun k hk _ => h.block k hk, fun _ hk => .inl hk, rfl, rfl, by omega⟩
theorem DuoStep.before {w w1 w' : World} {D D' : Duo} (h : Below w.heap.size w w1) (hs : DuoStep w1 D w' D') : DuoStep w D w' D' :=
  ⟨hs.os.trans h.os, hs.tape.trans h.tape, hs.output.trans h.output, Nat.le_trans h.size hs.size, fun k hk hn => (hs.blk k (Nat.lt_of_lt_of_le hk h.size) hn).trans (h.block k hk), fun k hk => (hs.own k hk).imp id (fun h2 => Nat.le_trans h.size h2), hs.sb, hs.b, hs.made⟩

theorem keepR_made (r : RSt) (l : List Fl) : (keepR r l).1.made ≤ r.made + 1 := by unfold keepR; split; exact Nat.le_succ _; split; exact Nat.le_succ _; exact Nat.le_refl _

/-- The program's call, then the document's: both have done the same. -/
theorem duo_step {w w2 w3 : World} {D : Duo} {B' : Bank} {r' : RSt} {va' : Value} {sn' : List (Nat × Value)} (hD : DuoAt w D) (hO : Okay w2 B') (hA : Agree B' r') (hX : Ext w.heap.size w D.B w2 B')
    (hR : RefAt w3 D.b r' va' D.vr sn') (hS : RefStep w2 D.b D.va D.sn w3 va' sn') (hm : r'.made ≤ D.r.made + 1) :
    DuoAt w3 ⟨B', D.b, r', va', D.vr, sn'⟩ ∧ DuoStep w D w3 ⟨B', D.b, r', va', D.vr, sn'⟩ := by
  have hdoc : ∀ k, D.docs k → ¬ B'.own k := by
    intro k hk ho
    rcases hX.own k ho with h1 | h1
    · exact hD.apart k h1 hk
    · have := hD.ref.docs_lt hk; omega
  have hB3 : ∀ k, B'.own k → w3.heap[k]? = w2.heap[k]? := fun k hk => hS.block k (hO.at'.own_lt hk) (fun e => hdoc k (.inl e) hk) (fun e => hdoc k (.inr (.inl e)) hk)
  have hnew : ∀ k, Duo.docs ⟨B', D.b, r', va', D.vr, sn'⟩ k → D.docs k ∨ w2.heap.size ≤ k := by
    intro k hk
    rcases hk with hk | hk | ⟨x, hx, hk⟩
    · exact .inl (.inl hk)
    · rcases hS.moved k hk with h1 | h1
      · exact .inl (.inr (.inl h1))
      · exact .inr h1
    · rcases hS.vals x hx with h1 | h1
      · exact .inl (.inr (.inr ⟨x, h1, hk⟩))
      · exact .inr (h1 k hk)
  refine ⟨⟨hO.frame hB3, hR, hA, ?_⟩, ⟨hS.os.trans hX.os, hS.tape.trans hX.tape, hS.output.trans hX.output, Nat.le_trans hX.size hS.size, ?_, ?_, hX.four.1, rfl, hm⟩⟩
  · intro k hk hd
    rcases hnew k hd with h1 | h1
    · exact hdoc k h1 hk
    · have := hO.at'.own_lt hk; omega
  · intro k hk hn
    rw [hS.block k (Nat.lt_of_lt_of_le hk hX.size) (fun e => hn (.inr (.inl e))) (fun e => hn (.inr (.inr (.inl e)))), hX.blk k hk (fun h => hn (.inl h))]
  · intro k hk
    rcases hk with hk | hk
    · rcases hX.own k hk with h1 | h1
      · exact .inl (.inl h1)
      · exact .inr h1
    · rcases hnew k hk with h1 | h1
      · exact .inl (.inr h1)
      · exact .inr (Nat.le_trans hX.size h1)

theorem duo_ref {w w2 : World} {D : Duo} {B' : Bank} (hD : DuoAt w D) (hX : Ext w.heap.size w D.B w2 B') : RefAt w2 D.b D.r D.va D.vr D.sn :=
  hD.ref.frame fun k hk => hX.blk k (hD.ref.docs_lt hk) (fun h => hD.apart k h hk)

/-- Every path is short. -/
theorem path_short {p : List Str} (h : OkN p) (h5 : p.length ≤ 5) : (joinP p).length ≤ 44 := by
  have h1 : ∀ x ∈ p, x.length ≤ 8 := fun x hx => (isNameL_len (h.2 x hx)).2
  have h2 : ∀ (q : List Str), (∀ x ∈ q, x.length ≤ 8) → (joinP q).length ≤ 9 * q.length := by
    intro q
    induction q with
    | nil => intro _; simp [joinP]
    | cons x r ih =>
      intro hq
      have hx := hq x (by simp)
      cases r with
      | nil => simp only [joinP, List.length_cons, List.length_nil]; omega
      | cons y r =>
        have := ih (fun z hz => hq z (by simp [hz]))
        rw [joinP_cons (by simp), List.length_append, List.length_cons, List.length_cons]; omega
  cases p with
  | nil => simp [joinP]
  | cons x r =>
    cases r with
    | nil => have := h1 x (by simp); simp only [joinP]; omega
    | cons y r =>
      have hx := h1 x (by simp)
      have h3 := h2 (y :: r) (fun z hz => h1 z (by simp [hz]))
      rw [joinP_cons (by simp), List.length_append, List.length_cons]
      simp only [List.length_cons] at h5 h3 ⊢
      have h4 : ∀ (q : List Str), q ≠ [] → (∀ x ∈ q, x.length ≤ 8) → (joinP q).length + 1 ≤ 9 * q.length := by
        intro q
        induction q with
        | nil => intro h; exact absurd rfl h
        | cons x r ih =>
          intro _ hq
          have hx := hq x (by simp)
          cases r with
          | nil => simp only [joinP, List.length_cons, List.length_nil]; omega
          | cons y r =>
            have := ih (by simp) (fun z hz => hq z (by simp [hz]))
            rw [joinP_cons (by simp), List.length_append, List.length_cons, List.length_cons]; omega
      have h6 := h4 (y :: r) (by simp) (fun z hz => h1 z (by simp [hz]))
      simp only [List.length_cons] at h6
      omega

theorem duo_short {w : World} {D : Duo} (h : DuoAt w D) : ∀ x ∈ D.r.all, ∀ f ∈ x.2, f.1.length ≤ 44 := by
  intro x hx f hf
  rw [← h.ag.all] at hx
  simp only [List.mem_map] at hx
  obtain ⟨s, hs, rfl⟩ := hx
  obtain ⟨hw, _, hh⟩ := h.ok.wf s hs
  simp only [toF, List.mem_map] at hf
  obtain ⟨g, hg, rfl⟩ := hf
  have h1 := (valid_files hw).1 g hg
  have h2 := (mem_root hw g.1 g.2).1 hg
  cases hp : g.1 with
  | nil => rw [hp] at h1; exact absurd rfl h1.1
  | cons y r =>
    rw [hp] at h2 h1
    exact path_short h1 ((heightE_le s.2 hw 5).1 hh y r g.2 h2)

end Go.Proofs.YtdcbgfhkfmohiaaGreatDoor

/- The law's edits. -/
namespace Go.Proofs.YtdcbgfhkfmohiaaGreatDoor
open Go.RowKit

theorem num_any (x : Int) (w : World) : Calls Tryz.prog 68 #[.int .i64 x] w fun e w' => e = .returned (.int .i64 x) ∧ w' = w := by
  go_enter Tryz.func68, Tryz.ntmps68
  go_wp2
  go_ret
  exact ⟨rfl, rfl⟩

def EditOut (w : World) (D : Duo) (e : Ending) (w' : World) : Prop := e = .returned (.bool true) ∧ ∃ D', DuoAt w' D' ∧ DuoStep w D w' D'

theorem putR_made (r : RSt) (n : Int) (p d : Str) : (putR r n p d).1.made ≤ r.made + 1 := by
  unfold putR
  split
  · exact Nat.le_succ _
  · split
    · exact Nat.le_succ _
    · split
      · exact Nat.le_succ _
      · split
        · exact Nat.le_succ _
        · split
          · exact Nat.le_succ _
          · exact keepR_made _ _
theorem deleteR_made (r : RSt) (n : Int) (p : Str) : (deleteR r n p).1.made ≤ r.made + 1 := by
  unfold deleteR
  split
  · exact Nat.le_succ _
  · split
    · exact Nat.le_succ _
    · split
      · exact Nat.le_succ _
      · exact keepR_made _ _
theorem moveR_made (r : RSt) (n : Int) (p d : Str) : (moveR r n p d).1.made ≤ r.made + 1 := by
  unfold moveR
  split
  · exact Nat.le_succ _
  · split
    · exact Nat.le_succ _
    · split
      · exact Nat.le_succ _
      · split
        · exact Nat.le_succ _
        · split
          · exact Nat.le_succ _
          · exact keepR_made _ _
theorem releaseR_made (r : RSt) (n : Int) : (releaseR r n).1.made ≤ r.made + 1 := by
  unfold releaseR
  split
  · exact Nat.le_succ _
  · exact Nat.le_succ _

abbrev opV (K W N M : Int) (S T : Str) (L : Value) : Value := .agg #[.int .i64 K, .int .i64 W, .int .i64 N, .int .i64 M, SV S, SV T, L]
abbrev pairV (D : Duo) : Value := .agg #[ptrV D.B.sb, ptrV D.b]

/-- The boxed arguments. -/
structure ArgsAt (W : World) (h : Nat) (D : Duo) (K Wn N M : Int) (S T : Str) (L : Value) : Prop where
  pair : W.heap[h]? = some (.cells #[ptrV D.B.sb, ptrV D.b] 143 (0, 0))
  op : W.heap[h + 1]? = some (.cells #[.int .i64 K, .int .i64 Wn, .int .i64 N, .int .i64 M, SV S, SV T, L] 78 (0, 0))

theorem args_box (w : World) (D : Duo) (K Wn N M : Int) (S T : Str) (L : Value) : ∃ W : World, W = (w.alloc (.cells #[ptrV D.B.sb, ptrV D.b] 143)).alloc (.cells #[.int .i64 K, .int .i64 Wn, .int .i64 N, .int .i64 M, SV S, SV T, L] 78) ∧ ArgsAt W w.heap.size D K Wn N M S T L ∧ Below w.heap.size w W ∧ W.heap.size = w.heap.size + 2 := by
  refine ⟨_, rfl, ⟨?_, ?_⟩, ((Below.refl _ _).alloc (Nat.le_refl _) _).alloc (by simp) _, by simp⟩
  · rw [Below.heap_alloc _ _ _ (by simp)]; exact heap_alloc_new _ _
  · have := heap_alloc_new (w.alloc (.cells #[ptrV D.B.sb, ptrV D.b] 143)) (.cells #[.int .i64 K, .int .i64 Wn, .int .i64 N, .int .i64 M, SV S, SV T, L] 78)
    simpa using this

theorem ArgsAt.ext {W W2 : World} {h : Nat} {D : Duo} {K Wn N M : Int} {S T : Str} {L : Value} {B' : Bank} (hA : ArgsAt W h D K Wn N M S T L) (hX : Ext W.heap.size W D.B W2 B') (hown : ∀ k, D.B.own k → k < h) : ArgsAt W2 h D K Wn N M S T L :=
  ⟨(hX.blk _ (Array.getElem?_eq_some_iff.1 hA.pair).1 (fun ho => by have := hown _ ho; omega)).trans hA.pair, (hX.blk _ (Array.getElem?_eq_some_iff.1 hA.op).1 (fun ho => by have := hown _ ho; omega)).trans hA.op⟩

set_option maxHeartbeats 4000000 in
set_option maxRecDepth 50000 in
theorem edits_put (D : Duo) (Wn N M : Int) (S T : Str) (L : Value) (w : World) (hD : DuoAt w D) (hm : D.r.made < 4611686018427387904) (hS : S.length + 1 < maxLen) (hT : T.length + 1 < maxLen) :
    Calls Tryz.prog 69 #[pairV D, opV 2 Wn N M S T L] w fun e w' => EditOut w D e w' := by
  have HD : Hid _ := hD
  have hS0 := hS
  have hT0 := hT
  unfold maxLen at hS hT
  clear hD
  obtain ⟨w1, hw1, hA1, hb1, hsz1⟩ := args_box w D 2 Wn N M S T L
  have hD1 : DuoAt w1 D := HD.out.frame fun k hk => hb1.block k (HD.out.own_lt hk)
  have HM : Hid _ := putR_made D.r N S T
  have C : Hid (Calls Tryz.prog 38 #[ptrV D.B.sb, .int .i64 N, SV S, SV T] w1 fun e w' => StepOut w1.heap.size w1 D.B (putR D.r N S T) e w') := storePut_any D.B D.r N S T w1 hD1.ok hD1.ag (by rw [hD1.ag.made]; exact hm) hS0 (by unfold maxLen; omega)
  have HA1 : Hid _ := hA1
  have HB1 : Hid _ := hb1
  have HD1 : Hid _ := hD1
  have HW1 : Hid _ := hw1
  clear hA1 hb1 hD1
  go_enter Tryz.func69, Tryz.ntmps69
  go_wp2_with fail
  rw [← HW1.out]
  refine C.out.mono ?_
  rintro e w2 ⟨B', rfl, hO2, hAg2, hX2⟩
  have hown : ∀ k, D.B.own k → k < w.heap.size := fun k hk => HD.out.ok.at'.own_lt hk
  have hA2 := HA1.out.ext hX2 hown
  have hR2 := duo_ref HD1.out hX2
  have CR : Hid (Calls Tryz.prog 97 #[.pointer (some ⟨D.b, 0, none⟩), .int .i64 N, SV S, SV T] w2 fun e w' => RefOut w2 D.b D.va D.vr D.sn (putR D.r N S T) e w') := refPut_any D.b D.r D.va D.vr D.sn N S T w2 hR2 hm (by unfold maxLen; omega) (by unfold maxLen; omega)
  have cN : w2.cell? ⟨w.heap.size + 1, 2, none⟩ = some (.int .i64 N) := (blk_cell hA2.op 2).trans rfl
  have cS : w2.cell? ⟨w.heap.size + 1, 4, none⟩ = some (SV S) := (blk_cell hA2.op 4).trans rfl
  have cT : w2.cell? ⟨w.heap.size + 1, 5, none⟩ = some (SV T) := (blk_cell hA2.op 5).trans rfl
  have cB : w2.cell? ⟨w.heap.size, 1, none⟩ = some (ptrV D.b) := (blk_cell hA2.pair 1).trans rfl
  have HO2 : Hid _ := hO2
  have HAG2 : Hid _ := hAg2
  have HX2 : Hid _ := hX2
  clear hO2 hAg2 hX2 hA2 hR2 hown C
  generalize putR D.r N S T = o at *
  go_wp2_with fail
  refine CR.out.mono ?_
  rintro e w3 ⟨va', sn', rfl, hR3, hS3⟩
  obtain ⟨hD3, hSt⟩ := duo_step HD1.out HO2.out HAG2.out HX2.out hR3 hS3 HM.out
  have RR : Hid (∃ D', DuoAt w3 D' ∧ DuoStep w D w3 D') := ⟨_, hD3, DuoStep.before HB1.out hSt⟩
  clear hR3 hS3 hD3 hSt CR
  go_wp2_with (go_at_call 68; refine (num_any _ _).mono ?_; rintro e w4 ⟨rfl, rfl⟩)
  go_ret
  exact ⟨by first | rfl | simp, RR.out⟩

set_option maxHeartbeats 4000000 in
set_option maxRecDepth 50000 in
theorem edits_delete (D : Duo) (Wn N M : Int) (S T : Str) (L : Value) (w : World) (hD : DuoAt w D) (hm : D.r.made < 4611686018427387904) (hS : S.length + 1 < maxLen) (hT : T.length + 1 < maxLen) :
    Calls Tryz.prog 69 #[pairV D, opV 3 Wn N M S T L] w fun e w' => EditOut w D e w' := by
  have HD : Hid _ := hD
  have hS0 := hS
  have hT0 := hT
  unfold maxLen at hS hT
  clear hD
  obtain ⟨w1, hw1, hA1, hb1, hsz1⟩ := args_box w D 3 Wn N M S T L
  have hD1 : DuoAt w1 D := HD.out.frame fun k hk => hb1.block k (HD.out.own_lt hk)
  have HM : Hid _ := deleteR_made D.r N S
  have C : Hid (Calls Tryz.prog 44 #[ptrV D.B.sb, .int .i64 N, SV S] w1 fun e w' => StepOut w1.heap.size w1 D.B (deleteR D.r N S) e w') := storeDelete_any D.B D.r N S w1 hD1.ok hD1.ag (by rw [hD1.ag.made]; exact hm) hS0
  have HA1 : Hid _ := hA1
  have HB1 : Hid _ := hb1
  have HD1 : Hid _ := hD1
  have HW1 : Hid _ := hw1
  clear hA1 hb1 hD1
  go_enter Tryz.func69, Tryz.ntmps69
  go_wp2_with fail
  rw [← HW1.out]
  refine C.out.mono ?_
  rintro e w2 ⟨B', rfl, hO2, hAg2, hX2⟩
  have hown : ∀ k, D.B.own k → k < w.heap.size := fun k hk => HD.out.ok.at'.own_lt hk
  have hA2 := HA1.out.ext hX2 hown
  have hR2 := duo_ref HD1.out hX2
  have CR : Hid (Calls Tryz.prog 98 #[.pointer (some ⟨D.b, 0, none⟩), .int .i64 N, SV S] w2 fun e w' => RefOut w2 D.b D.va D.vr D.sn (deleteR D.r N S) e w') := refDelete_any D.b D.r D.va D.vr D.sn N S w2 hR2 hm (by unfold maxLen; omega)
  have cN : w2.cell? ⟨w.heap.size + 1, 2, none⟩ = some (.int .i64 N) := (blk_cell hA2.op 2).trans rfl
  have cS : w2.cell? ⟨w.heap.size + 1, 4, none⟩ = some (SV S) := (blk_cell hA2.op 4).trans rfl
  have cB : w2.cell? ⟨w.heap.size, 1, none⟩ = some (ptrV D.b) := (blk_cell hA2.pair 1).trans rfl
  have HO2 : Hid _ := hO2
  have HAG2 : Hid _ := hAg2
  have HX2 : Hid _ := hX2
  clear hO2 hAg2 hX2 hA2 hR2 hown C
  generalize deleteR D.r N S = o at *
  go_wp2_with fail
  refine CR.out.mono ?_
  rintro e w3 ⟨va', sn', rfl, hR3, hS3⟩
  obtain ⟨hD3, hSt⟩ := duo_step HD1.out HO2.out HAG2.out HX2.out hR3 hS3 HM.out
  have RR : Hid (∃ D', DuoAt w3 D' ∧ DuoStep w D w3 D') := ⟨_, hD3, DuoStep.before HB1.out hSt⟩
  clear hR3 hS3 hD3 hSt CR
  go_wp2_with (go_at_call 68; refine (num_any _ _).mono ?_; rintro e w4 ⟨rfl, rfl⟩)
  go_ret
  exact ⟨by first | rfl | simp, RR.out⟩

set_option maxHeartbeats 4000000 in
set_option maxRecDepth 50000 in
theorem edits_move (D : Duo) (Wn N M : Int) (S T : Str) (L : Value) (w : World) (hD : DuoAt w D) (hm : D.r.made < 4611686018427387904) (hS : S.length + 1 < maxLen) (hT : T.length + 1 < maxLen) :
    Calls Tryz.prog 69 #[pairV D, opV 4 Wn N M S T L] w fun e w' => EditOut w D e w' := by
  have HD : Hid _ := hD
  have hS0 := hS
  have hT0 := hT
  unfold maxLen at hS hT
  clear hD
  obtain ⟨w1, hw1, hA1, hb1, hsz1⟩ := args_box w D 4 Wn N M S T L
  have hD1 : DuoAt w1 D := HD.out.frame fun k hk => hb1.block k (HD.out.own_lt hk)
  have HM : Hid _ := moveR_made D.r N S T
  have C : Hid (Calls Tryz.prog 39 #[ptrV D.B.sb, .int .i64 N, SV S, SV T] w1 fun e w' => StepOut w1.heap.size w1 D.B (moveR D.r N S T) e w') := storeMove_any D.B D.r N S T w1 hD1.ok hD1.ag (by rw [hD1.ag.made]; exact hm) hS0 hT0
  have HA1 : Hid _ := hA1
  have HB1 : Hid _ := hb1
  have HD1 : Hid _ := hD1
  have HW1 : Hid _ := hw1
  clear hA1 hb1 hD1
  go_enter Tryz.func69, Tryz.ntmps69
  go_wp2_with fail
  rw [← HW1.out]
  refine C.out.mono ?_
  rintro e w2 ⟨B', rfl, hO2, hAg2, hX2⟩
  have hown : ∀ k, D.B.own k → k < w.heap.size := fun k hk => HD.out.ok.at'.own_lt hk
  have hA2 := HA1.out.ext hX2 hown
  have hR2 := duo_ref HD1.out hX2
  have CR : Hid (Calls Tryz.prog 99 #[.pointer (some ⟨D.b, 0, none⟩), .int .i64 N, SV S, SV T] w2 fun e w' => RefOut w2 D.b D.va D.vr D.sn (moveR D.r N S T) e w') := refMove_any D.b D.r D.va D.vr D.sn N S T w2 hR2 hm (duo_short HD.out) (by unfold maxLen; omega) (by unfold maxLen; omega)
  have cN : w2.cell? ⟨w.heap.size + 1, 2, none⟩ = some (.int .i64 N) := (blk_cell hA2.op 2).trans rfl
  have cS : w2.cell? ⟨w.heap.size + 1, 4, none⟩ = some (SV S) := (blk_cell hA2.op 4).trans rfl
  have cT : w2.cell? ⟨w.heap.size + 1, 5, none⟩ = some (SV T) := (blk_cell hA2.op 5).trans rfl
  have cB : w2.cell? ⟨w.heap.size, 1, none⟩ = some (ptrV D.b) := (blk_cell hA2.pair 1).trans rfl
  have HO2 : Hid _ := hO2
  have HAG2 : Hid _ := hAg2
  have HX2 : Hid _ := hX2
  clear hO2 hAg2 hX2 hA2 hR2 hown C
  generalize moveR D.r N S T = o at *
  go_wp2_with fail
  refine CR.out.mono ?_
  rintro e w3 ⟨va', sn', rfl, hR3, hS3⟩
  obtain ⟨hD3, hSt⟩ := duo_step HD1.out HO2.out HAG2.out HX2.out hR3 hS3 HM.out
  have RR : Hid (∃ D', DuoAt w3 D' ∧ DuoStep w D w3 D') := ⟨_, hD3, DuoStep.before HB1.out hSt⟩
  clear hR3 hS3 hD3 hSt CR
  go_wp2_with (go_at_call 68; refine (num_any _ _).mono ?_; rintro e w4 ⟨rfl, rfl⟩)
  go_ret
  exact ⟨by first | rfl | simp, RR.out⟩

end Go.Proofs.YtdcbgfhkfmohiaaGreatDoor

/- The law's edits: Release, Cells, all. -/
namespace Go.Proofs.YtdcbgfhkfmohiaaGreatDoor
open Go.RowKit

set_option maxHeartbeats 4000000 in
set_option maxRecDepth 50000 in
theorem edits_release (D : Duo) (Wn N M : Int) (S T : Str) (L : Value) (w : World) (hD : DuoAt w D) :
    Calls Tryz.prog 69 #[pairV D, opV 5 Wn N M S T L] w fun e w' => EditOut w D e w' := by
  have HD : Hid _ := hD
  clear hD
  obtain ⟨w1, hw1, hA1, hb1, hsz1⟩ := args_box w D 5 Wn N M S T L
  have hD1 : DuoAt w1 D := HD.out.frame fun k hk => hb1.block k (HD.out.own_lt hk)
  have HM : Hid _ := releaseR_made D.r N
  have C : Hid (Calls Tryz.prog 20 #[ptrV D.B.sb, .int .i64 N] w1 fun e w' => StepOut1 w1.heap.size w1 D.B (releaseR D.r N) e w') := storeRelease_any D.B D.r N w1 hD1.ok hD1.ag
  have HA1 : Hid _ := hA1
  have HB1 : Hid _ := hb1
  have HD1 : Hid _ := hD1
  have HW1 : Hid _ := hw1
  clear hA1 hb1 hD1 hw1
  go_enter Tryz.func69, Tryz.ntmps69
  go_wp2_with fail
  rw [← HW1.out]
  refine C.out.mono ?_
  rintro e w2 ⟨B', rfl, hO2, hAg2, hX2⟩
  have hown : ∀ k, D.B.own k → k < w.heap.size := fun k hk => HD.out.ok.at'.own_lt hk
  have hA2 := HA1.out.ext hX2 hown
  have hR2 := duo_ref HD1.out hX2
  have CR : Hid (Calls Tryz.prog 100 #[.pointer (some ⟨D.b, 0, none⟩), .int .i64 N] w2 fun e w' => ReleaseOut w2 D.b D.va D.vr D.sn (releaseR D.r N) e w') := refRelease_any D.b D.r D.va D.vr D.sn N w2 hR2
  have cN : w2.cell? ⟨w.heap.size + 1, 2, none⟩ = some (.int .i64 N) := (blk_cell hA2.op 2).trans rfl
  have cB : w2.cell? ⟨w.heap.size, 1, none⟩ = some (ptrV D.b) := (blk_cell hA2.pair 1).trans rfl
  have HO2 : Hid _ := hO2
  have HAG2 : Hid _ := hAg2
  have HX2 : Hid _ := hX2
  clear hO2 hAg2 hX2 hA2 hR2 hown C
  generalize releaseR D.r N = o at *
  go_wp2_with fail
  refine CR.out.mono ?_
  rintro e w3 ⟨va', sn', rfl, hR3, hS3⟩
  obtain ⟨hD3, hSt⟩ := duo_step HD1.out HO2.out HAG2.out HX2.out hR3 hS3 HM.out
  have RR : Hid (∃ D', DuoAt w3 D' ∧ DuoStep w D w3 D') := ⟨_, hD3, DuoStep.before HB1.out hSt⟩
  clear hR3 hS3 hD3 hSt CR
  go_wp2_with (go_at_call 68; refine (num_any _ _).mono ?_; rintro e w4 ⟨rfl, rfl⟩)
  go_ret
  exact ⟨by first | rfl | simp, RR.out⟩

set_option maxHeartbeats 4000000 in
set_option maxRecDepth 50000 in
theorem edits_cells (D : Duo) (K Wn N M : Int) (S T : Str) (L : Value) (w : World) (hD : DuoAt w D) (h2 : K ≠ 2) (h3 : K ≠ 3) (h4 : K ≠ 4) (h5 : K ≠ 5) :
    Calls Tryz.prog 69 #[pairV D, opV K Wn N M S T L] w fun e w' => EditOut w D e w' := by
  have HD : Hid _ := hD
  clear hD
  obtain ⟨w1, hw1, hA1, hb1, hsz1⟩ := args_box w D K Wn N M S T L
  have hD1 : DuoAt w1 D := HD.out.frame fun k hk => hb1.block k (HD.out.own_lt hk)
  have C : Hid (Calls Tryz.prog 16 #[ptrV D.B.sb] w1 fun e w' => e = .returned (.int .i64 ((D.B.ds.length + D.B.fs.length : Nat) : Int)) ∧ ∃ n, w' = w1.drewN n) := bankCells_any D.B w1 hD1.ok.at' (by have := hD1.ok.room; omega)
  have HC : Hid (cellsOf D.r = D.B.ds.length + D.B.fs.length) := Agree.cells hD1.ok hD1.ag
  have HA1 : Hid _ := hA1
  have HB1 : Hid _ := hb1
  have HD1 : Hid _ := hD1
  have HW1 : Hid _ := hw1
  clear hA1 hb1 hD1 hw1
  go_enter Tryz.func69, Tryz.ntmps69
  go_wp2_with fail
  rw [← HW1.out]
  refine C.out.mono ?_
  rintro e w2 ⟨rfl, n2, rfl⟩
  have hb2 : Below w1.heap.size w1 (w1.drewN n2) := below_like rfl rfl rfl rfl
  have CR : Hid (Calls Tryz.prog 101 #[.pointer (some ⟨D.b, 0, none⟩)] (w1.drewN n2) fun e w' => e = .returned (.int .i64 (cellsOf D.r)) ∧ Below (w1.drewN n2).heap.size (w1.drewN n2) w') := storeCells_any D.b D.r D.va D.vr D.sn _ (HD1.out.ref.later hb2 (Nat.le_refl _))
  have cB : w1.cell? ⟨w.heap.size, 1, none⟩ = some (ptrV D.b) := (blk_cell HA1.out.pair 1).trans rfl
  rw [HC.out] at CR
  clear hb2 C
  generalize D.B.ds.length + D.B.fs.length = cc at *
  go_wp2_with fail
  refine CR.out.mono ?_
  rintro e w3 ⟨rfl, hb3⟩
  have hb13 : Below w.heap.size w w3 := HB1.out.trans (Below.mono (show Below w1.heap.size w1 w3 from ⟨hb3.os, hb3.tape, hb3.output, hb3.size, hb3.block⟩) HB1.out.size)
  have RR : Hid (∃ D', DuoAt w3 D' ∧ DuoStep w D w3 D') := ⟨D, HD.out.frame fun k hk => hb13.block k (HD.out.own_lt hk), DuoStep.of_below hb13⟩
  clear hb3 hb13 CR
  go_wp2
  go_ret
  exact ⟨by first | rfl | simp, RR.out⟩

theorem edits_any (D : Duo) (K Wn N M : Int) (S T : Str) (L : Value) (w : World) (hD : DuoAt w D) (hm : D.r.made < 4611686018427387904) (hS : S.length + 1 < maxLen) (hT : T.length + 1 < maxLen) :
    Calls Tryz.prog 69 #[pairV D, opV K Wn N M S T L] w fun e w' => EditOut w D e w' := by
  by_cases h2 : K = 2
  · subst h2; exact edits_put D Wn N M S T L w hD hm hS hT
  · by_cases h3 : K = 3
    · subst h3; exact edits_delete D Wn N M S T L w hD hm hS hT
    · by_cases h4 : K = 4
      · subst h4; exact edits_move D Wn N M S T L w hD hm hS hT
      · by_cases h5 : K = 5
        · subst h5; exact edits_release D Wn N M S T L w hD
        · exact edits_cells D K Wn N M S T L w hD h2 h3 h4 h5

end Go.Proofs.YtdcbgfhkfmohiaaGreatDoor

/- The law's world: pick, made. -/
namespace Go.Proofs.YtdcbgfhkfmohiaaGreatDoor
open Go.RowKit

def InI (c : Int) : Prop := -9223372036854775808 ≤ c ∧ c < 9223372036854775808
def pickN (c : Int) (n : Nat) : Nat := ((if c < 0 then -(c + 1) else c) % (n : Int)).toNat
theorem pickN_lt (c : Int) {n : Nat} (h : 0 < n) : pickN c n < n := by
  unfold pickN
  have h1 := Int.emod_nonneg (if c < 0 then -(c + 1) else c) (show (n : Int) ≠ 0 by omega)
  have h2 := Int.emod_lt_of_pos (if c < 0 then -(c + 1) else c) (show (0 : Int) < (n : Int) by omega)
  omega

set_option maxHeartbeats 1000000 in
theorem pick_any (c : Int) (n : Nat) (w : World) (hc : InI c) (hn : 0 < n) (hn2 : n < 4611686018427387904) :
    Calls Tryz.prog 41 #[.int .i64 c, .int .i64 (n : Int)] w fun e w' => e = .returned (.int .i64 (pickN c n : Int)) ∧ w' = w := by
  unfold InI at hc
  have hne : ¬ (n : Int) = 0 := by omega
  by_cases h : c < 0
  · have hR : Hid ((pickN c n : Int) = (-(c + 1)).tmod (n : Int)) := by
      rw [Hid, Int.tmod_eq_emod_of_nonneg (by omega)]
      unfold pickN; rw [if_pos h]
      have h1 := Int.emod_nonneg (-(c + 1)) (show (n : Int) ≠ 0 by omega)
      omega
    go_enter Tryz.func41, Tryz.ntmps41
    go_wp2
    go_ret
    exact ⟨ret_int (by rw [hR.out, Int.neg_tmod]), rfl⟩
  · have hR : Hid ((pickN c n : Int) = c % (n : Int)) := by
      rw [Hid]
      unfold pickN; rw [if_neg h]
      have h1 := Int.emod_nonneg c (show (n : Int) ≠ 0 by omega)
      omega
    go_enter Tryz.func41, Tryz.ntmps41
    go_wp2
    go_ret
    exact ⟨ret_int (by rw [hR.out]), rfl⟩

/-- Pairs, side by side. -/
def flatP (Ds : List Duo) : List Value := Ds.flatMap fun D => [ptrV D.B.sb, ptrV D.b]
theorem flatP_len (Ds : List Duo) : (flatP Ds).length = Ds.length * 2 := by
  induction Ds with
  | nil => rfl
  | cons D Ds ih => simp [flatP] at *; omega
theorem flatP_app (Ds : List Duo) (D : Duo) : flatP (Ds ++ [D]) = flatP Ds ++ [ptrV D.B.sb, ptrV D.b] := by simp [flatP]
theorem flatP_get (Ds : List Duo) (k : Nat) (h : k < Ds.length) : (flatP Ds)[k * 2]? = some (ptrV Ds[k].B.sb) ∧ (flatP Ds)[k * 2 + 1]? = some (ptrV Ds[k].b) := by
  induction Ds generalizing k with
  | nil => simp at h
  | cons f t ih =>
    cases k with
    | zero => simp [flatP]
    | succ k =>
      have := ih k (by simpa using h)
      simp only [flatP, List.flatMap_cons, List.getElem_cons_succ] at *
      rw [show (k + 1) * 2 = k * 2 + 2 from by omega, show k * 2 + 2 + 1 = (k * 2 + 1) + 2 from by omega]
      simpa using this

/-- All stores so far, in the world in block g; m: how many steps there were. -/
structure LawAt (base : Nat) (w : World) (g : Nat) (v : Value) (Ds : List Duo) (m : Nat) : Prop where
  blk : w.heap[g]? = some (.cells #[v] 75 (0, 0))
  row : w.ownsRow base 143 2 v Ds.length (flatP Ds)
  duos : ∀ D ∈ Ds, DuoAt w D
  apart : Ds.Pairwise fun D E => ∀ k, D.own k → ¬ E.own k
  free : ∀ D ∈ Ds, ∀ k, D.own k → k ≠ g ∧ v.ownBlock ≠ some k ∧ base ≤ k
  gb : base ≤ g
  made : ∀ D ∈ Ds, D.r.made ≤ m
  len : Ds.length ≤ m
  mx : MaxOk w
  mb : 0 < base

theorem LawAt.sep {base : Nat} {w : World} {g : Nat} {v : Value} {Ds : List Duo} {m : Nat} (h : LawAt base w g v Ds m) : v.ownBlock ≠ some g := by
  intro e
  obtain ⟨c, hc⟩ := row_type h.row e
  rw [h.blk] at hc; simp at hc

theorem Tryz.infoPair : (Tryz.prog.info? 143).map (fun i => (i.zero, i.size, i.bytes)) = some (some (.agg #[.pointer none, .pointer none]), 2, 16) := by kernel_rfl

theorem ref_new {w w' : World} {c : Nat} {b : Nat} {va : Value} {B : Bank} (hO : Okay w B) (hA : Agree B (newR c)) (hb : w.heap.size ≤ b) (hR : RefAt w' b (newR c) va (.slice none 0 0) [(0, .slice none 0 0)]) (hB : Below w.heap.size w w') (hf : ∀ k, va.ownBlock = some k → w.heap.size ≤ k) :
    DuoAt w' ⟨B, b, newR c, va, .slice none 0 0, [(0, .slice none 0 0)]⟩ := by
  refine ⟨hO.frame (fun k hk => hB.block k (hO.at'.own_lt hk)), hR, hA, ?_⟩
  intro k hk hd
  have h1 := hO.at'.own_lt hk
  rcases hd with h | h | ⟨x, hx, h⟩
  · have h : k = b := h; omega
  · have := hf k h; omega
  · have hx : x ∈ [((0 : Nat), Value.slice none 0 0)] := hx
    simp at hx; subst hx; simp [Value.ownBlock] at h

/-- One store more. -/
theorem LawAt.more {base : Nat} {w w2 w3 w5 : World} {g : Nat} {v v' : Value} {Ds : List Duo} {m : Nat} {D : Duo} (h : LawAt base w g v Ds m) (hb : Below w.heap.size w w2) (hD : DuoAt w2 D) (hn : ∀ k, D.own k → w.heap.size ≤ k) (hm : D.r.made ≤ m + 1)
    (hrow : w3.ownsRow base 143 2 v' (Ds.length + 1) (flatP Ds ++ [ptrV D.B.sb, ptrV D.b])) (hg : w2.grownBy w3 v.ownBlock) (hmv : Moved w2 v v') (hs : Set1 w3 w5 g (.cells #[v'] 75 (0, 0))) : LawAt base w5 g v' (Ds ++ [D]) (m + 1) ∧ Below base w w5 := by
  have hgl : g < w.heap.size := (Array.getElem?_eq_some_iff.1 h.blk).1
  have hbase : base ≤ w.heap.size := by have := h.gb; omega
  have hvl : ∀ k, v.ownBlock = some k → base ≤ k ∧ k < w.heap.size := fun k hk => h.row.lt k hk
  have hown2 : ∀ E ∈ Ds ++ [D], ∀ k, E.own k → k ≠ g ∧ v.ownBlock ≠ some k ∧ base ≤ k ∧ k < w2.heap.size := by
    intro E hE k hk
    simp only [List.mem_append, List.mem_singleton] at hE
    rcases hE with hE | rfl
    · have h1 := h.free E hE k hk
      have h2 := (h.duos E hE).own_lt hk
      have := hb.size
      exact ⟨h1.1, h1.2.1, h1.2.2, by omega⟩
    · have h1 := hn k hk
      have h2 := hD.own_lt hk
      exact ⟨by omega, fun e => by have := hvl k e; omega, by omega, h2⟩
  have hsame : ∀ k, k < w2.heap.size → k ≠ g → v.ownBlock ≠ some k → w5.heap[k]? = w2.heap[k]? := fun k h1 h2 h3 => (hs.other k h2).trans (hg.block k h1 (Ne.symm h3))
  have hv' : v'.ownBlock ≠ some g := by
    intro e
    rcases hmv g e with h1 | h1
    · exact h.sep h1
    · have := hb.size; omega
  have hBel : Below base w w5 := by
    refine ⟨hs.os.trans (hg.os.trans hb.os), hs.tape.trans (hg.tape.trans hb.tape), hs.output.trans (hg.output.trans hb.output), by rw [hs.size]; exact Nat.le_trans hb.size hg.size, ?_⟩
    intro k hk
    have h1 : k ≠ g := by have := h.gb; omega
    have h2 : v.ownBlock ≠ some k := fun e => by have := (hvl k e).1; omega
    rw [hsame k (by have := hb.size; omega) h1 h2, hb.block k (by omega)]
  refine ⟨⟨hs.here, ?_, ?_, ?_, ?_, h.gb, ?_, ?_, h.mx.below hBel h.mb, h.mb⟩, hBel⟩
  · rw [List.length_append, flatP_app]
    exact rowKept hrow (fun k hk => hs.other k (fun e => hv' (e ▸ hk)))
  · intro E hE
    have h2 : DuoAt w2 E := by
      have hE' := hE
      simp only [List.mem_append, List.mem_singleton] at hE
      rcases hE with hE | rfl
      · exact (h.duos E hE).frame fun k hk => hb.block k ((h.duos E hE).own_lt hk)
      · exact hD
    exact h2.frame fun k hk => by have h3 := hown2 E hE k hk; exact hsame k h3.2.2.2 h3.1 h3.2.1
  · rw [List.pairwise_append]
    refine ⟨h.apart, by simp, ?_⟩
    intro E hE F hF k hk hk2
    simp at hF; subst hF
    have h1 := (h.duos E hE).own_lt hk
    have h2 := hn k hk2
    omega
  · intro E hE k hk
    have h3 := hown2 E hE k hk
    refine ⟨h3.1, fun e => ?_, h3.2.2.1⟩
    rcases hmv k e with h1 | h1
    · exact h3.2.1 h1
    · omega
  · intro E hE
    simp only [List.mem_append, List.mem_singleton] at hE
    rcases hE with hE | rfl
    · have := h.made E hE; omega
    · exact hm
  · rw [List.length_append]; have := h.len; simp; omega

end Go.Proofs.YtdcbgfhkfmohiaaGreatDoor

/- The law's made. -/
namespace Go.Proofs.YtdcbgfhkfmohiaaGreatDoor
open Go.RowKit

theorem LawAt.mono {base : Nat} {w : World} {g : Nat} {v : Value} {Ds : List Duo} {m m' : Nat} (h : LawAt base w g v Ds m) (hm : m ≤ m') : LawAt base w g v Ds m' :=
  ⟨h.blk, h.row, h.duos, h.apart, h.free, h.gb, fun D hD => Nat.le_trans (h.made D hD) hm, Nat.le_trans h.len hm, h.mx, h.mb⟩
theorem LawAt.below {base : Nat} {w w' : World} {g : Nat} {v : Value} {Ds : List Duo} {m : Nat} (h : LawAt base w g v Ds m) (hb : Below w.heap.size w w') : LawAt base w' g v Ds m :=
  ⟨(hb.block g (Array.getElem?_eq_some_iff.1 h.blk).1).trans h.blk, rowKept h.row (fun k hk => hb.block k (h.row.lt k hk).2), fun D hD => (h.duos D hD).frame fun k hk => hb.block k ((h.duos D hD).own_lt hk), h.apart, h.free, h.gb, h.made, h.len, h.mx.later hb, h.mb⟩

set_option maxHeartbeats 1000000 in
theorem made_no (g : Nat) (c : Int) (w : World) (hc : c < 1 ∨ 200 < c) : Calls Tryz.prog 40 #[ptrV g, .int .i64 c] w fun e w' => e = .returned (.bool true) ∧ w' = w := by
  have C1 : Hid (Calls Tryz.prog 43 #[.int .i64 c] w fun e w' => e = .returned (.tuple #[.pointer none, .int .i64 1]) ∧ w' = w) := storeNew_no c w hc
  have C2 : Hid (Calls Tryz.prog 67 #[.int .i64 c] w fun e w' => e = .returned (.tuple #[.pointer none, .int .i64 1]) ∧ w' = w) := refNew_no c w hc
  clear hc
  go_enter Tryz.func40, Tryz.ntmps40
  go_wp2_with (first | (go_at_call 43; refine C1.out.mono ?_; rintro e w1 ⟨rfl, rfl⟩) | (go_at_call 67; refine C2.out.mono ?_; rintro e w1 ⟨rfl, rfl⟩) | (go_at_call 68; refine (num_any _ _).mono ?_; rintro e w1 ⟨rfl, rfl⟩))
  go_ret
  exact ⟨rfl, rfl⟩

def MadeOut (base : Nat) (w : World) (g : Nat) (Ds : List Duo) (m : Nat) (e : Ending) (w' : World) : Prop := e = .returned (.bool true) ∧ ∃ v' D, LawAt base w' g v' (Ds ++ [D]) (m + 1) ∧ Below base w w'

set_option maxHeartbeats 2000000 in
set_option maxRecDepth 50000 in
theorem made_yes (base : Nat) (g : Nat) (v : Value) (Ds : List Duo) (m c : Nat) (w : World) (h : LawAt base w g v Ds m) (h1 : 1 ≤ c) (h2 : c ≤ 200) (hlen : Ds.length < 4000000000000) :
    Calls Tryz.prog 40 #[ptrV g, .int .i64 (c : Int)] w fun e w' => MadeOut base w g Ds m e w' := by
  have HL : Hid _ := h
  have hgl : g < w.heap.size := (Array.getElem?_eq_some_iff.1 h.blk).1
  clear h
  go_enter Tryz.func40, Tryz.ntmps40
  go_wp2_with fail
  refine (storeNew_any c w h1 h2).mono ?_
  rintro e w1 ⟨B, rfl, hO, hA, hb1, hf1, _⟩
  have HO : Hid _ := hO
  have HA : Hid _ := hA
  have HB1 : Hid _ := hb1
  have HF1 : Hid _ := hf1
  clear hO hA hb1 hf1
  go_wp2_with fail
  refine (refNew_yes c w1 h1 h2).mono ?_
  rintro e w2 ⟨b, va, hbn, rfl, hR, hb2, hf2⟩
  have hD2 := ref_new HO.out HA.out hbn hR hb2 hf2
  have hb12 : Below w.heap.size w w2 := HB1.out.trans (hb2.mono HB1.out.size)
  have hn : ∀ k, Duo.own ⟨B, b, newR c, va, .slice none 0 0, [(0, .slice none 0 0)]⟩ k → w.heap.size ≤ k := by
    intro k hk
    have hs1 := HB1.out.size
    rcases hk with h | h | h | ⟨x, hx, h⟩
    · exact HF1.out k h
    · have h : k = b := h; omega
    · have := hf2 k h; omega
    · have hx : x ∈ [((0 : Nat), Value.slice none 0 0)] := hx
      simp at hx; subst hx; simp [Value.ownBlock] at h
  have hL2 := HL.out.below hb12
  have hform : ∃ ao nn cap, v = .slice ao nn cap := by
    rcases hL2.row.2 with ⟨h, _⟩ | ⟨g', cap, cur, h, _⟩
    · exact ⟨_, _, _, h⟩
    · exact ⟨_, _, _, h⟩
  obtain ⟨ao, nn, cap, rfl⟩ := hform
  have cg : w2.cell? ⟨g, 0, none⟩ = some (.slice ao nn cap) := (blk_cell hL2.blk 0).trans rfl
  have HROW : Hid (w2.ownsRow base 143 2 (.slice ao nn cap) Ds.length (flatP Ds)) := hL2.row
  have HBLK : Hid _ := hL2.blk
  have HD2 : Hid (DuoAt w2 ⟨B, b, newR c, va, .slice none 0 0, [(0, .slice none 0 0)]⟩) := hD2
  have HN : Hid _ := hn
  have HB12 : Hid _ := hb12
  have hg2 : g < w2.heap.size := Nat.lt_of_lt_of_le hgl hb12.size
  have hbase2 : base ≤ w2.heap.size := by have := HL.out.gb; omega
  have Hsep : Hid _ := hL2.sep
  clear hD2 hn hb12 hL2 hR hb2 hf2 hbn
  go_wp2_with (first | (go_at_call 68; refine (num_any _ _).mono ?_; rintro e w1 ⟨rfl, rfl⟩) | (at_builtin; refine wp_app_at 73 143 _ 2 16 Tryz.infoPair Tryz.underlying73 rfl (by decide) rfl (.tmp 36) (.tmp 40) rfl (base := base) HROW.out [ptrV B.sb, ptrV b] rfl (by intro u hu; simp at hu; rcases hu with rfl | rfl <;> rfl) ⟨rfl, rfl, rfl, rfl⟩ rfl rfl (by unfold maxLen; omega) (by omega) hbase2 ?_; intro v' w3 hrow3 hg3 hmv3; have hblk3 := (hg3.block g hg2 (Ne.symm Hsep.out)).trans HBLK.out; have cg3 := (blk_cell hblk3 0).trans rfl; have cf3 := blk_free hblk3 0; obtain ⟨g', cap', rfl⟩ := row_some hrow3; have HROW3 := Hid.mk' hrow3; have HG3 := Hid.mk' hg3; have HMV3 := Hid.mk' hmv3; have HBLK3 := Hid.mk' hblk3; clear hrow3 hg3 hmv3 hblk3))
  go_ret
  have hs5 : Set1 w3 (w3.setCell ⟨g, 0, none⟩ (.slice (some ⟨g', 0, none⟩) (Ds.length + 1) cap')) g (.cells #[.slice (some ⟨g', 0, none⟩) (Ds.length + 1) cap'] 75 (0, 0)) := setCell_set1 HBLK3.out _
  obtain ⟨hL5, hb5⟩ := HL.out.more HB12.out HD2.out HN.out (by show 1 ≤ m + 1; omega) HROW3.out HG3.out HMV3.out hs5
  exact ⟨rfl, _, _, hL5, hb5⟩

end Go.Proofs.YtdcbgfhkfmohiaaGreatDoor
