/- Shared: the statement's lists in memory, and what it asks in pure words. -/
import Derived.Test.YtdcbgfhkfmohiaaGreatDoorKb31
import Derived.Deep.DeepCutAuto
namespace Go.Proofs.YtdcbgfhkfmohiaaGreatDoor
open Go.RowKit

/-- The list of numbers beside the store. -/
structure NumsAt (w0 w : World) (T : Bank) (u : Value) (ns : List Nat) : Prop where
  row : w.ownsRow w0.heap.size 3 1 u ns.length (intsV ns)
  out : ∀ k, u.ownBlock = some k → ¬ T.own k ∧ k ≠ T.rr
theorem NumsAt.edit {w0 w w' : World} {T T' : Bank} {u : Value} {ns : List Nat} (h : NumsAt w0 w T u ns) (h3 : Ext w.heap.size w T w' T') : NumsAt w0 w' T' u ns := by
  refine ⟨rowKept h.row fun j hj => (ext_free h3 (h.row.lt j hj).2 (h.out j hj).1).2, fun k hk => ?_⟩
  rw [show T'.rr = T.rr from h3.four.2.2.2.2]
  exact ⟨(ext_free h3 (h.row.lt k hk).2 (h.out k hk).1).1, (h.out k hk).2⟩
theorem NumsAt.below {w0 w w' : World} {T : Bank} {u : Value} {ns : List Nat} (h : NumsAt w0 w T u ns) (hb : Below w.heap.size w w') : NumsAt w0 w' T u ns :=
  ⟨rowKept h.row fun j hj => hb.block j (h.row.lt j hj).2, h.out⟩
/-- A block that is not the store's. -/
def FreeB (w : World) (T : Bank) (g : Nat) (o : Obj) : Prop := w.heap[g]? = some o ∧ ¬ T.own g
theorem FreeB.edit {w w' : World} {T T' : Bank} {g : Nat} {o : Obj} (h : FreeB w T g o) (h3 : Ext w.heap.size w T w' T') : FreeB w' T' g o := by
  have := ext_free h3 (Array.getElem?_eq_some_iff.1 h.1).1 h.2
  exact ⟨this.2.trans h.1, this.1⟩
theorem FreeB.below {w w' : World} {T : Bank} {g : Nat} {o : Obj} (h : FreeB w T g o) (hb : Below w.heap.size w w') : FreeB w' T g o := ⟨(hb.block g (Array.getElem?_eq_some_iff.1 h.1).1).trans h.1, h.2⟩
theorem Played.good {r : RSt} {ns : List Nat} (h : Played r ns) : ∀ x ∈ r.all, GoodL x.2 := by
  induction h with
  | start => exact good_start
  | @more r ns n o r' m h hl hn ho ih =>
    have hg := grew_good ih (play_good r n o ih)
    rw [ho] at hg
    exact hg
theorem KAt.cells {w0 w : World} {T : Bank} {r : RSt} (h : KAt w0 w T r) : Calls Tryz.prog 16 #[ptrV T.sb] w fun e w' => e = .returned (.int .i64 (cellsOf r : Nat)) ∧ Below w.heap.size w w' := by
  refine (bankCells_any T w h.ok.at' (by have := h.ok.room; omega)).mono ?_
  rintro e w' ⟨rfl, n, rfl⟩
  rw [Agree.cells h.ok h.ag]
  exact ⟨rfl, below_like rfl rfl rfl rfl⟩
theorem KAt.room {w0 w : World} {T : Bank} {r : RSt} (h : KAt w0 w T r) : cellsOf r ≤ r.limit := by
  rw [Agree.cells h.ok h.ag, ← h.ag.room]; exact h.ok.room.1
theorem toF_mem {L : List NF} {x : Fl} (h : x ∈ toF L) : ∃ f ∈ L, x = (joinP f.1, f.2) := by
  unfold toF at h
  rw [List.mem_map] at h
  obtain ⟨f, h1, rfl⟩ := h
  exact ⟨f, h1, rfl⟩

def moreR (r : RSt) (l : List Fl) : RSt := { r with all := r.all ++ [(r.made, l)], made := r.made + 1 }
theorem keep_go {r : RSt} {l : List Fl} {n : Int} (h : r.all.length < 12) (hf : findL r.all n = some l) (hc : cellsOf r ≤ r.limit) : keepR r l = (moreR r l, r.made, 0) := by
  rw [keepR_ok h]
  · rfl
  · rw [cells_more hf]; omega
/-- What Shared asks. -/
structure SharedR (r : RSt) (n : Nat) (last : Nat) (l : List Fl) (p d : Str) : Prop where
  put : putR r n p d = (moreR r l, r.made, 0)
  cells : cellsOf (moreR r l) = cellsOf r
  same : sameR (moreR r l) n r.made [47] = (true, 0)
  gone : releaseR (moreR r l) r.made = ({ r with made := r.made + 1 }, 0)
  move : moveR { r with made := r.made + 1 } n p tMoved = ({ r with made := r.made + 1 }, 0, 7) ∨ moveR { r with made := r.made + 1 } n p tMoved = ({ r with made := r.made + 1 }, 0, 8) ∨
    ∃ l', moveR { r with made := r.made + 1 } n p tMoved = (moreR { r with made := r.made + 1 } l', r.made + 1, 0) ∧ ∃ r4, releaseR (moreR { r with made := r.made + 1 } l') last = (r4, 0) ∧ r4.made = r.made + 2 ∧ (last ≠ n → cellsOf r4 ≤ r4.limit → moveR r4 ((r.made + 1 : Nat) : Int) tMoved p = (moreR r4 l, r4.made, 0) ∧ sameR (moreR r4 l) n r4.made [47] = (true, 0))
theorem shared_pure {w0 w : World} {T : Bank} {r : RSt} {ns : List Nat} (h : KAt w0 w T r) (hp : Played r ns) {n last : Nat} (hn : n ∈ ns) (hl : last ∈ ns) {l : List Fl} (hf : findL r.all (n : Int) = some l) {x : Fl} (hx : x ∈ l) : SharedR r n last l x.1 x.2 := by
  obtain ⟨es, rfl, hw, h5, h20⟩ := find_wf h.ok h.ag hf
  obtain ⟨f, hfm, rfl⟩ := toF_mem hx
  obtain ⟨k0, hk0, _⟩ := findL_mem hf
  obtain ⟨L, hL, hg⟩ := hp.good _ hk0
  have hLe : filesE es = L := toF_inj (valid_files hw).1 hg.v hL
  rw [hLe] at hf hfm hx ⊢
  have hap : Apart L := hLe ▸ apart_files hw
  have hfo : FileOk (joinP f.1) := by rw [← hLe] at hfm; exact file_ok hw h5 hfm
  have hd : f.2.length ≤ 30 := by rw [← hLe] at hfm; exact (valid_files hw).2 f hfm
  obtain ⟨hnum, _, _, h11, hlt, hpw, _⟩ := hp.facts
  have hall : r.all.length ≤ 11 := by rw [← hnum] at h11; simpa using h11
  have hfr : ∀ y ∈ r.all, y.1 ≠ r.made := fun y hy e => by
    have := hlt y.1 (by rw [← hnum]; exact List.mem_map_of_mem hy)
    omega
  have hnm : n < r.made := hlt n hn
  have hlm : last < r.made := hlt last hl
  have hmore : findL (moreR r (toF L)).all (n : Int) = some (toF L) := by show findL (r.all ++ [(r.made, toF L)]) (n : Int) = _; rw [findL_old (by omega)]; exact hf
  refine ⟨?_, ?_, ?_, ?_, ?_⟩
  · rw [put_twice hf hg hap hfm hfo.path hd, keep_go (by omega) hf h.room]
  · exact cells_more hf r.made
  · exact same_root hmore (findL_app hfr)
  · have e : findL (moreR r (toF L)).all (r.made : Int) = some (toF L) := findL_app hfr
    unfold releaseR
    rw [e]
    simp only [moreR, List.filter_append]
    congr 2
    rw [List.filter_eq_self.2 (fun y hy => by have := hfr y hy; simp; omega)]
    simp
  · obtain ⟨L', h1, h2, h3, h4⟩ := move_one (r := { r with made := r.made + 1 }) hf hg.v hg.s hap hfm hfo.path moved_path.1 (moved_fresh hg).1 (moved_fresh hg).2
    rw [h1]
    rw [moved_path.2] at h4
    have hk := keep_grew (P := fun _ => True) { r with made := r.made + 1 } (toF L') trivial
    unfold keepR
    rw [if_neg (by show ¬ 12 ≤ r.all.length; omega)]
    by_cases hc : ({ r with made := r.made + 1 } : RSt).limit < cellsOf { ({ r with made := r.made + 1 } : RSt) with all := r.all ++ [(r.made + 1, toF L')] }
    · exact .inr (.inl (by rw [if_pos hc]))
    · refine .inr (.inr ⟨toF L', by rw [if_neg hc]; rfl, ?_⟩)
      obtain ⟨ll, hll⟩ := hp.find hl
      have hfl : findL (moreR { r with made := r.made + 1 } (toF L')).all (last : Int) = some ll := by show findL (r.all ++ [(r.made + 1, toF L')]) (last : Int) = _; rw [findL_old (by omega)]; exact hll
      refine ⟨{ moreR { r with made := r.made + 1 } (toF L') with all := (moreR { r with made := r.made + 1 } (toF L')).all.filter fun x => !((x.1 : Int) == (last : Int)) }, by unfold releaseR; rw [hfl], rfl, fun hne hc4 => ?_⟩
      have f1 : findL ((moreR { r with made := r.made + 1 } (toF L')).all.filter fun x => !((x.1 : Int) == (last : Int))) ((r.made + 1 : Nat) : Int) = some (toF L') := by
        rw [findL_gone (by omega)]
        exact findL_app (m := r.made + 1) fun y hy e => by
          have := hlt y.1 (by rw [← hnum]; exact List.mem_map_of_mem hy)
          omega
      have f2 : findL ((moreR { r with made := r.made + 1 } (toF L')).all.filter fun x => !((x.1 : Int) == (last : Int))) (n : Int) = some (toF L) := by
        rw [findL_gone (Ne.symm hne)]
        show findL (r.all ++ [(r.made + 1, toF L')]) (n : Int) = _
        rw [findL_old (by omega)]; exact hf
      have hlen : ((moreR { r with made := r.made + 1 } (toF L')).all.filter fun x => !((x.1 : Int) == (last : Int))).length < 12 := by
        obtain ⟨k1, hk1, ek1⟩ := findL_mem hfl
        have h6 : ((moreR { r with made := r.made + 1 } (toF L')).all.filter fun x => !((x.1 : Int) == (last : Int))).length < (moreR { r with made := r.made + 1 } (toF L')).all.length := by
          rw [List.length_filter_lt_length_iff_exists]
          exact ⟨_, hk1, by simp; omega⟩
        have h7 : (moreR { r with made := r.made + 1 } (toF L')).all.length = r.all.length + 1 := by simp [moreR]
        omega
      refine ⟨?_, ?_⟩
      · rw [move_back hg hap hfm hfo.path h2 h3 h4 f1, keep_go hlen f2 hc4]
      · refine same_root (l := toF L) ?_ ?_
        · show findL (_ ++ [(_, toF L)]) (n : Int) = _
          rw [findL_old (by show n ≠ r.made + 1 + 1; omega)]; exact f2
        · refine findL_app fun y hy e => ?_
          have h8 := (List.mem_filter.1 hy).1
          simp only [moreR, List.mem_append, List.mem_singleton] at h8
          rcases h8 with h8 | rfl
          · have := hlt y.1 (by rw [← hnum]; exact List.mem_map_of_mem h8)
            simp only [moreR] at e; omega
          · simp only [moreR] at e; omega

end Go.Proofs.YtdcbgfhkfmohiaaGreatDoor

/- Edited: what must be at a path behind an edit. No program. -/
namespace Go.Proofs.YtdcbgfhkfmohiaaGreatDoor
open Go.RowKit

def aK (o : KStep) : Str := if kN o.K 6 = 5 then pathK (kN (o.A.tmod 20) 84) else pathK (kN o.A 84)
def bK (o : KStep) : Str := if kN o.K 6 = 5 then pathK (kN (o.B.tmod 20) 84) else pathK (kN o.B 84)
def wantK (o : KStep) (l : List Fl) (p : Str) : Str × Bool :=
  if kN o.K 6 < 3 then wantPut l (aK o) (datK (kN o.B 5)) p else if kN o.K 6 = 3 then wantDel l (aK o) p else wantMove l (aK o) (bK o) p
theorem path_ne_root {p : Str} (h : isPathL p = true) : (p == [47]) = false := by
  cases hq : p == [47]
  · rfl
  · rw [beq_iff_eq] at hq
    subst hq
    exact absurd h (by decide)
/-- What Edited asks, of the store that was and the one that is. -/
structure EditedR (r : RSt) (n : Nat) (o : KStep) (l l' : List Fl) : Prop where
  val : ∀ p, isPathL p = true → valueK l' p = wantK o l p
  old : findL (r.all ++ [(r.made, l')]) (n : Int) = some l
  new : findL (r.all ++ [(r.made, l')]) (r.made : Int) = some l'
theorem files_paths {w0 w : World} {T : Bank} {r : RSt} (h : KAt w0 w T r) {n : Int} {l : List Fl} (hf : findL r.all n = some l) : l.length ≤ 20 ∧ ∀ f ∈ l, isPathL f.1 = true ∧ f.1.length ≤ 44 := by
  obtain ⟨es, rfl, hw, h5, h20⟩ := find_wf h.ok h.ag hf
  refine ⟨by unfold toF; rw [List.length_map]; exact h20, fun f hm => ?_⟩
  obtain ⟨g, hg, rfl⟩ := toF_mem hm
  exact ⟨(file_ok hw h5 hg).path, (file_ok hw h5 hg).short⟩

end Go.Proofs.YtdcbgfhkfmohiaaGreatDoor

/- Diffed: what the lines of a difference say. No program. -/
namespace Go.Proofs.YtdcbgfhkfmohiaaGreatDoor
open Go.RowKit

/-- The bytes of a name. -/
def NameB (x : Str) : Prop := ∀ b ∈ x, b ≠ (47 : UInt8) ∧ 0 < b.toNat
theorem name_bytes {x : Str} (h : isNameL x false = true) : NameB x := by
  unfold isNameL at h
  simp only [Bool.and_eq_true, List.all_eq_true] at h
  intro b hb
  have := h.2 b hb
  unfold okByte at this
  simp only [Bool.or_eq_true, decide_eq_true_eq, Bool.false_and, Bool.false_eq_true, or_false] at this
  refine ⟨?_, by omega⟩
  intro e
  subst e
  have h47 : (47 : UInt8).toNat = 47 := rfl
  omega
theorem keyB_name {b : UInt8} (h : b ≠ 47) : keyB b = b.toNat := by unfold keyB; rw [if_neg h]
theorem lessK_names {x y a b : Str} (hx : NameB x) (hy : NameB y) (ha : a = [] ∨ ∃ a', a = 47 :: a') (h : Op.bytesLess x y = true) : lessK (x ++ a) (y ++ b) = true := by
  induction x generalizing y with
  | nil =>
    cases y with
    | nil => simp [Op.bytesLess] at h
    | cons d y =>
      have hd := hy d (by simp)
      rcases ha with rfl | ⟨a', rfl⟩
      · simp [lessK]
      · rw [List.nil_append, List.cons_append, lessK, keyB_name hd.1]
        have : keyB 47 = 0 := rfl
        rw [this, if_neg (by omega)]
        simpa using hd.2
  | cons c x ih =>
    cases y with
    | nil => simp [Op.bytesLess] at h
    | cons d y =>
      have hc := hx c (by simp)
      have hd := hy d (by simp)
      rw [List.cons_append, List.cons_append, lessK, keyB_name hc.1, keyB_name hd.1]
      rw [Op.bytesLess, Bool.or_eq_true, Bool.and_eq_true, decide_eq_true_eq, beq_iff_eq] at h
      rcases h with h | ⟨h1, h2⟩
      · have h3 : c.toNat < d.toNat := h
        rw [if_neg (by omega)]
        simpa using h3
      · subst h1
        rw [if_pos rfl]
        exact ih (fun z hz => hx z (by simp [hz])) (fun z hz => hy z (by simp [hz])) h2
theorem lessK_same (x a b : Str) : lessK (x ++ a) (x ++ b) = lessK a b := by
  induction x with
  | nil => rfl
  | cons c x ih => rw [List.cons_append, List.cons_append, lessK, if_pos rfl, ih]
theorem lessK_paths {P Q : List Str} (hP : OkN P) (hQ : OkN Q) (h : lessS P Q = true) : lessK (joinP P) (joinP Q) = true := by
  induction P generalizing Q with
  | nil => exact absurd rfl hP.1
  | cons x P ih =>
    cases Q with
    | nil => exact absurd rfl hQ.1
    | cons y Q =>
      have hx := name_bytes (hP.2 x (by simp))
      have hy := name_bytes (hQ.2 y (by simp))
      rw [lessS] at h
      by_cases e : x = y
      · subst e
        rw [if_pos rfl] at h
        cases Q with
        | nil => cases P <;> simp [lessS] at h
        | cons z Q =>
          rw [joinP_cons (r := z :: Q) (by simp)]
          cases P with
          | nil =>
            have := lessK_same x [] (47 :: joinP (z :: Q))
            rw [List.append_nil] at this
            show lessK (joinP [x]) _ = true
            rw [show joinP [x] = x from rfl, this]
            simp [lessK]
          | cons u P =>
            rw [joinP_cons (r := u :: P) (by simp), lessK_same, lessK, if_pos rfl]
            exact ih ⟨by simp, fun z' hz' => hP.2 z' (by simp at hz' ⊢; exact .inr hz')⟩ ⟨by simp, fun z' hz' => hQ.2 z' (by simp at hz' ⊢; exact .inr hz')⟩ h
      · rw [if_neg e] at h
        have hja : ∃ a, joinP (x :: P) = x ++ a ∧ (a = [] ∨ ∃ a', a = 47 :: a') := by
          cases P with
          | nil => exact ⟨[], by simp [joinP], .inl rfl⟩
          | cons u P => exact ⟨_, joinP_cons (by simp), .inr ⟨_, rfl⟩⟩
        have hjb : ∃ b, joinP (y :: Q) = y ++ b := by
          cases Q with
          | nil => exact ⟨[], by simp [joinP]⟩
          | cons u Q => exact ⟨_, joinP_cons (by simp)⟩
        obtain ⟨a, ea, ha⟩ := hja
        obtain ⟨b, eb⟩ := hjb
        rw [ea, eb]
        exact lessK_names hx hy ha h

/-- What a line says of a path. -/
def markK (a b : Option Str) : Option Str := match a, b with
  | some x, some y => if x = y then none else some [126]
  | some _, none => some [45]
  | none, some _ => some [43]
  | none, none => none
def turnM (k : Str) : Str := if k = [45] then [43] else if k = [43] then [45] else k
theorem mark_turn (a b : Option Str) : markK b a = (markK a b).map turnM := by
  cases a <;> cases b
  · rfl
  · simp [markK, turnM]
  · simp [markK, turnM]
  · rename_i x y
    simp only [markK]
    by_cases e : x = y
    · rw [if_pos e, if_pos e.symm]; rfl
    · rw [if_neg e, if_neg (Ne.symm e)]; simp [turnM]
/-- The lines of a difference, as names and marks. -/
structure DiffK (A B : Ents) (N : List NF) : Prop where
  v : ValidN N
  s : SortedN N
  mem : ∀ x, x ∈ N ↔ markK (fileAt (.dir A) x.1) (fileAt (.dir B) x.1) = some x.2
theorem diffN_of {A B : Ents} (hA : WFE A) (hB : WFE B) : ∃ N, diffL (toF (filesE A)) (toF (filesE B)) = toF N ∧ DiffK A B N := by
  obtain ⟨h1, h2⟩ := diff_names hA hB
  refine ⟨_, h1, h2.valid, h2.sorted, fun x => ?_⟩
  rw [diff_mem hA hB]
  cases ha : fileAt (.dir A) x.1 <;> cases hb : fileAt (.dir B) x.1 <;> simp [markK, cA, cB, ha, hb]
  intro _
  exact ⟨fun h e => h e.symm, fun h e => h e.symm⟩
theorem diffN_turn {A B : Ents} {N N' : List NF} (h : DiffK A B N) (h' : DiffK B A N') : N' = N.map fun f => (f.1, turnM f.2) := by
  refine sorted_unique h'.s ?_ fun x => ?_
  · have := h.s
    unfold SortedN at this ⊢
    rw [List.pairwise_map]
    exact this
  · rw [h'.mem, mark_turn, List.mem_map]
    constructor
    · intro h1
      rw [Option.map_eq_some_iff] at h1
      obtain ⟨k, h2, h3⟩ := h1
      exact ⟨(x.1, k), (h.mem _).2 h2, by show (x.1, turnM k) = x; rw [h3]⟩
    · rintro ⟨f, h1, rfl⟩
      rw [(h.mem f).1 h1]; rfl
theorem diffN_nil {A B : Ents} {N : List NF} (hA : WFE A) (hB : WFE B) (h : DiffK A B N) : N = [] ↔ A = B := by
  constructor
  · intro e
    refine ents_ext A B hA hB fun p => ?_
    have : ∀ k, markK (fileAt (.dir A) p) (fileAt (.dir B) p) ≠ some k := fun k hk => by
      have := (h.mem (p, k)).2 hk
      rw [e] at this; simp at this
    revert this
    generalize fileAt (.dir A) p = a
    generalize fileAt (.dir B) p = b
    intro this
    cases a with
    | none =>
      cases b with
      | none => rfl
      | some y => exact absurd rfl (this _)
    | some x =>
      cases b with
      | none => exact absurd rfl (this _)
      | some y =>
        by_cases exy : x = y
        · rw [exy]
        · simp [markK, exy] at this
  · intro e
    subst e
    cases N with
    | nil => rfl
    | cons f N =>
      have := (h.mem f).1 (by simp)
      cases ha : fileAt (.dir A) f.1 <;> rw [ha] at this <;> simp [markK] at this
theorem value_tree {A : Ents} (hA : WFE A) {P : List Str} (hP : OkN P) : valueK (toF (filesE A)) (joinP P) = match fileAt (.dir A) P with
    | some d => (d, true)
    | none => ([], false) := by
  rcases value_names (valid_files hA).1 (sorted_filesE A hA) hP with ⟨d, h1, h2⟩ | ⟨h1, h2⟩
  · rw [(mem_root hA _ _).1 h1]; exact h2
  · cases hf : fileAt (.dir A) P with
    | none => exact h2
    | some d => exact absurd ((mem_root hA _ _).2 hf) (h1 d)
/-- How many lines there are. -/
def cntA (l m : List Fl) : Nat := l.countP fun f => !(valueK m f.1).2 || !((valueK m f.1).1 == f.2)
def cntB (l m : List Fl) : Nat := m.countP fun f => !(valueK l f.1).2
theorem diffN_count {A B : Ents} {N : List NF} (hA : WFE A) (hB : WFE B) (h : DiffK A B N) : cntA (toF (filesE A)) (toF (filesE B)) + cntB (toF (filesE A)) (toF (filesE B)) = N.length := by
  have nN : (N.map (·.1)).Nodup := sorted_nodup h.s
  have nA := sorted_nodup (sorted_filesE A hA)
  have nB := sorted_nodup (sorted_filesE B hB)
  let a := (filesE A).filter fun f => decide (fileAt (.dir B) f.1 ≠ some f.2)
  let b := (filesE B).filter fun f => decide (fileAt (.dir A) f.1 = none)
  have e1 : cntA (toF (filesE A)) (toF (filesE B)) = a.length := by
    unfold cntA toF
    rw [List.countP_map, List.countP_eq_length_filter]
    congr 1
    refine List.filter_congr fun f hf => ?_
    have hv := value_tree hB ((valid_files hA).1 f hf)
    unfold toF at hv
    simp only [Function.comp, hv]
    cases fileAt (.dir B) f.1 with
    | none => simp
    | some d =>
      by_cases e : d = f.2 <;> simp [e]
  have e2 : cntB (toF (filesE A)) (toF (filesE B)) = b.length := by
    unfold cntB toF
    rw [List.countP_map, List.countP_eq_length_filter]
    congr 1
    refine List.filter_congr fun f hf => ?_
    have hv := value_tree hA ((valid_files hB).1 f hf)
    unfold toF at hv
    simp only [Function.comp, hv]
    cases fileAt (.dir A) f.1 with
    | none => simp
    | some d => simp
  rw [e1, e2]
  have hnd : (a.map (·.1) ++ b.map (·.1)).Nodup := by
    rw [List.nodup_append]
    refine ⟨nA.sublist (List.Sublist.map _ List.filter_sublist), nB.sublist (List.Sublist.map _ List.filter_sublist), fun x hx y hy e => ?_⟩
    rw [List.mem_map] at hx hy
    obtain ⟨f, hf, rfl⟩ := hx
    obtain ⟨g, hg, rfl⟩ := hy
    have h1 := (mem_root hA _ _).1 (List.mem_filter.1 hf).1
    have h2 := (List.mem_filter.1 hg).2
    simp only [decide_eq_true_eq] at h2
    rw [← e, h1] at h2
    simp at h2
  have hiff : ∀ x, x ∈ a.map (·.1) ++ b.map (·.1) ↔ x ∈ N.map (·.1) := by
    intro x
    rw [List.mem_append, List.mem_map, List.mem_map, List.mem_map]
    constructor
    · rintro (⟨f, hf, rfl⟩ | ⟨f, hf, rfl⟩)
      · have h1 := (mem_root hA _ _).1 (List.mem_filter.1 hf).1
        have h2 := (List.mem_filter.1 hf).2
        simp only [decide_eq_true_eq] at h2
        cases hb : fileAt (.dir B) f.1 with
        | none => exact ⟨(f.1, [45]), (h.mem _).2 (by simp [h1, hb, markK]), rfl⟩
        | some d =>
          rw [hb] at h2
          exact ⟨(f.1, [126]), (h.mem _).2 (by simp only [h1, hb, markK]; rw [if_neg (fun e => h2 (by rw [e]))]), rfl⟩
      · have h1 := (mem_root hB _ _).1 (List.mem_filter.1 hf).1
        have h2 := (List.mem_filter.1 hf).2
        simp only [decide_eq_true_eq] at h2
        exact ⟨(f.1, [43]), (h.mem _).2 (by simp [h1, h2, markK]), rfl⟩
    · rintro ⟨f, hf, rfl⟩
      have hm := (h.mem f).1 hf
      cases ha : fileAt (.dir A) f.1 with
      | none =>
        cases hb : fileAt (.dir B) f.1 with
        | none => rw [ha, hb] at hm; simp [markK] at hm
        | some d => exact .inr ⟨(f.1, d), List.mem_filter.2 ⟨(mem_root hB _ _).2 hb, by simp [ha]⟩, rfl⟩
      | some c =>
        refine .inl ⟨(f.1, c), List.mem_filter.2 ⟨(mem_root hA _ _).2 ha, ?_⟩, rfl⟩
        simp only [decide_eq_true_eq]
        intro hb
        rw [ha, hb] at hm
        simp [markK] at hm
  have l1 := nodup_sub hnd (fun x hx => (hiff x).1 hx)
  have l2 := nodup_sub nN (fun x hx => (hiff x).2 hx)
  simp only [List.length_append, List.length_map] at l1 l2
  omega

theorem diffK_root {A B : Ents} {N : List NF} (hA : WFE A) (hB : WFE B) (h : DiffK A B N) : sameF (toF (filesE A)) (toF (filesE B)) [47] = (decide (N = []), 0) := by
  refine (same_pure hA hB (by decide)).2 (.dir A) (.dir B) rfl rfl _ ?_
  rw [decide_eq_true_iff, diffN_nil hA hB h, Tree.dir.injEq]
/-- Does a line speak of a path, of what lies in it, or of what it lies in? -/
def touchK (N : List NF) (p : Str) : Bool := (toF N).any fun f => ((f.1 == p) || !(belowL f.1 p).isEmpty) || !(belowL p f.1).isEmpty
theorem touch_names {N : List NF} (hv : ValidN N) {P : List Str} (hP : OkN P) : touchK N (joinP P) = true ↔ ∃ f ∈ N, P <+: f.1 ∨ ∃ R, R ≠ [] ∧ P = f.1 ++ R := by
  unfold touchK toF
  rw [List.any_map, List.any_eq_true]
  constructor
  · rintro ⟨f, hf, h⟩
    refine ⟨f, hf, ?_⟩
    have hF := hv f hf
    simp only [Function.comp, Bool.or_eq_true, beq_iff_eq] at h
    rcases h with (h | h) | h
    · rw [hF.inj hP] at h; rw [h]; exact .inl (List.prefix_refl _)
    · by_cases hn : ∃ R, R ≠ [] ∧ f.1 = P ++ R
      · obtain ⟨R, _, e⟩ := hn
        exact .inl ⟨R, e.symm⟩
      · rw [(below_empty hF hP).2 hn] at h; simp at h
    · by_cases hn : ∃ R, R ≠ [] ∧ P = f.1 ++ R
      · exact .inr hn
      · rw [(below_empty hP hF).2 hn] at h; simp at h
  · rintro ⟨f, hf, h⟩
    refine ⟨f, hf, ?_⟩
    have hF := hv f hf
    simp only [Function.comp, Bool.or_eq_true, beq_iff_eq]
    rcases h with h | h
    · rcases prefix_iff.1 h with e | hn
      · exact .inl (.inl (by rw [e]))
      · refine .inl (.inr ?_)
        cases hb : (belowL (joinP f.1) (joinP P)).isEmpty
        · rfl
        · exact absurd hn ((below_empty hF hP).1 hb)
    · refine .inr ?_
      cases hb : (belowL (joinP P) (joinP f.1)).isEmpty
      · rfl
      · exact absurd h ((below_empty hP hF).1 hb)
theorem sub_file_none {t : Tree} {q R : List Str} {d : Str} (h : fileAt t q = some d) (hR : R ≠ []) : sub t (q ++ R) = none := by
  rw [sub_app, sub_of_file h]
  cases R with
  | nil => exact absurd rfl hR
  | cons x R => rfl
theorem diffK_at {A B : Ents} {N : List NF} (hA : WFE A) (hB : WFE B) (h : DiffK A B N) {p : Str} (hp : isPathL p = true) :
    sameF (toF (filesE A)) (toF (filesE B)) p = (false, 6) ∨ sameF (toF (filesE A)) (toF (filesE B)) p = (!touchK N p, 0) := by
  obtain ⟨hP, hj⟩ := path_names hp
  have hpl : isPlaceL p = true := by unfold isPlaceL; rw [hp]; rfl
  have hq : placeQ p = splitL 47 p := by
    unfold placeQ
    rw [if_neg]
    intro e
    have := path_ne_root hp
    rw [e] at this
    simp at this
  obtain ⟨k1, k2⟩ := same_pure hA hB hpl
  rw [hq] at k1 k2
  cases ha : sub (.dir A) (splitL 47 p) with
  | none => exact .inl (k1 (.inl ha))
  | some t =>
    cases hb : sub (.dir B) (splitL 47 p) with
    | none => exact .inl (k1 (.inr hb))
    | some t' =>
      refine .inr (k2 t t' ha hb _ ?_)
      have hne : ∀ {E : Ents} {u : Tree}, sub (.dir E) (splitL 47 p) = some u → WFE E → WFT u := by
        intro E u hu hE
        refine sub_wf (splitL 47 p) (t := .dir E) ?_ hu
        unfold WFT
        refine ⟨?_, hE⟩
        intro e
        subst e
        cases hs : splitL 47 p with
        | nil => exact hP.1 hs
        | cons x r => rw [hs] at hu; simp [sub, findE] at hu
      have hwt := hne ha hA
      have hwt' := hne hb hB
      have htn := touch_names h.v hP
      rw [hj] at htn
      rw [Bool.not_eq_true', ← Bool.not_eq_true, htn]
      constructor
      · intro hno
        refine tree_ext t t' hwt hwt' fun R => ?_
        rw [fileAt_sub ha, fileAt_sub hb]
        have hm : ∀ k, markK (fileAt (.dir A) (splitL 47 p ++ R)) (fileAt (.dir B) (splitL 47 p ++ R)) ≠ some k := fun k hk => hno ⟨_, (h.mem (_, k)).2 hk, .inl ⟨R, rfl⟩⟩
        revert hm
        generalize fileAt (.dir A) (splitL 47 p ++ R) = a
        generalize fileAt (.dir B) (splitL 47 p ++ R) = b
        intro hm
        cases a with
        | none =>
          cases b with
          | none => rfl
          | some y => exact absurd rfl (hm _)
        | some x =>
          cases b with
          | none => exact absurd rfl (hm _)
          | some y =>
            by_cases exy : x = y
            · rw [exy]
            · simp [markK, exy] at hm
      · rintro rfl ⟨f, hf, hpre | ⟨R, hR, e⟩⟩
        · obtain ⟨R, e⟩ := hpre
          have hm := (h.mem f).1 hf
          rw [← e, ← fileAt_sub ha, ← fileAt_sub hb] at hm
          cases hx : fileAt t R <;> rw [hx] at hm <;> simp [markK] at hm
        · have hm := (h.mem f).1 hf
          cases hx : fileAt (.dir A) f.1 with
          | some d =>
            have := sub_file_none hx hR
            rw [← e, ha] at this
            simp at this
          | none =>
            cases hy : fileAt (.dir B) f.1 with
            | some d =>
              have := sub_file_none hy hR
              rw [← e, hb] at this
              simp at this
            | none => rw [hx, hy] at hm; simp [markK] at hm

end Go.Proofs.YtdcbgfhkfmohiaaGreatDoor

/- Diffed: all that is asked of two lists of files. No program. -/
namespace Go.Proofs.YtdcbgfhkfmohiaaGreatDoor
open Go.RowKit
attribute [local go_sem] Oper.semAt_some

/-- A line of a difference: its mark, the mark of the other way round, its path; what the two have there. -/
structure LineK (l m : List Fl) (b c : UInt8) (p : Str) : Prop where
  path : isPathL p = true ∧ p.length ≤ 44
  say : (b = 126 ∧ c = 126 ∧ ∃ x y, x ≠ y ∧ valueK l p = (x, true) ∧ valueK m p = (y, true)) ∨ (b = 45 ∧ c = 43 ∧ ∃ x, valueK l p = (x, true) ∧ valueK m p = ([], false)) ∨ (b = 43 ∧ c = 45 ∧ ∃ y, valueK l p = ([], false) ∧ valueK m p = (y, true))
/-- All that Diffed asks of two lists of files. -/
structure DiffedR (l m : List Fl) (bs cs : List UInt8) (ps : List Str) : Prop where
  lb : bs.length = ps.length
  lc : cs.length = ps.length
  few : ps.length ≤ 40
  one : diffT l m = (List.zipWith (fun b p => b :: p) bs ps).flatMap (· ++ [10])
  two : diffT m l = (List.zipWith (fun b p => b :: p) cs ps).flatMap (· ++ [10])
  free : ∀ p ∈ ps, ∀ b ∈ p, b ≠ (10 : UInt8)
  marks : ∀ b ∈ bs ++ cs, b ≠ (10 : UInt8)
  line : ∀ k (h : k < ps.length), LineK l m (bs[k]'(by omega)) (cs[k]'(by omega)) ps[k]
  order : ∀ k (h : k + 1 < ps.length), lessK ps[k] ps[k + 1] = true
  count : cntA l m + cntB l m = ps.length
  root : sameF l m [47] = (decide (ps.length = 0), 0)
  probe : ∀ p, isPathL p = true → sameF l m p = (false, 6) ∨ sameF l m p = (!(ps.any fun f => ((f == p) || !(belowL f p).isEmpty) || !(belowL p f).isEmpty), 0)
theorem mark_one {A B : Ents} {N : List NF} (h : DiffK A B N) {f : NF} (hf : f ∈ N) : (f.2 = [126] ∧ ∃ x y, x ≠ y ∧ fileAt (.dir A) f.1 = some x ∧ fileAt (.dir B) f.1 = some y) ∨ (f.2 = [45] ∧ ∃ x, fileAt (.dir A) f.1 = some x ∧ fileAt (.dir B) f.1 = none) ∨ (f.2 = [43] ∧ ∃ y, fileAt (.dir A) f.1 = none ∧ fileAt (.dir B) f.1 = some y) := by
  have hm := (h.mem f).1 hf
  cases ha : fileAt (.dir A) f.1 with
  | none =>
    cases hb : fileAt (.dir B) f.1 with
    | none => rw [ha, hb] at hm; simp [markK] at hm
    | some y => rw [ha, hb] at hm; simp [markK] at hm; exact .inr (.inr ⟨hm.symm, y, rfl, rfl⟩)
  | some x =>
    cases hb : fileAt (.dir B) f.1 with
    | none => rw [ha, hb] at hm; simp [markK] at hm; exact .inr (.inl ⟨hm.symm, x, rfl, rfl⟩)
    | some y =>
      rw [ha, hb] at hm
      by_cases e : x = y
      · simp [markK, e] at hm
      · simp [markK, e] at hm
        exact .inl ⟨hm.symm, x, y, e, rfl, rfl⟩
theorem zip_map {α : Type} (N : List α) (f : α → UInt8) (g : α → Str) : List.zipWith (fun b p => b :: p) (N.map f) (N.map g) = N.map fun x => f x :: g x := by
  induction N with
  | nil => rfl
  | cons a N ih => simp [ih]
theorem diffed_pure {A B : Ents} (hA : WFE A) (hB : WFE B) (h5 : heightE A ≤ 5) (h5' : heightE B ≤ 5) (hn : (filesE A).length ≤ 20) (hn' : (filesE B).length ≤ 20) :
    ∃ bs cs ps, DiffedR (toF (filesE A)) (toF (filesE B)) bs cs ps := by
  obtain ⟨N, hN, hD⟩ := diffN_of hA hB
  obtain ⟨N', hN', hD'⟩ := diffN_of hB hA
  have hturn := diffN_turn hD hD'
  have hcount := diffN_count hA hB hD
  have hok : ∀ f ∈ N, isPathL (joinP f.1) = true ∧ (joinP f.1).length ≤ 44 ∧ ∀ b ∈ joinP f.1, b ≠ 32 ∧ b ≠ 10 := by
    intro f hf
    have : (∃ d, (f.1, d) ∈ filesE A) ∨ ∃ d, (f.1, d) ∈ filesE B := by
      rcases mark_one hD hf with ⟨_, x, y, _, h1, _⟩ | ⟨_, x, h1, _⟩ | ⟨_, y, _, h1⟩
      · exact .inl ⟨x, (mem_root hA _ _).2 h1⟩
      · exact .inl ⟨x, (mem_root hA _ _).2 h1⟩
      · exact .inr ⟨y, (mem_root hB _ _).2 h1⟩
    rcases this with ⟨d, h1⟩ | ⟨d, h1⟩
    · have := file_ok hA h5 h1; exact ⟨this.path, this.short, this.free⟩
    · have := file_ok hB h5' h1; exact ⟨this.path, this.short, this.free⟩
  have hone : diffT (toF (filesE A)) (toF (filesE B)) = (N.map fun f => f.2 ++ joinP f.1).flatMap (· ++ [10]) := by
    unfold diffT
    rw [hN]
    unfold toF
    rw [List.flatMap_map, List.flatMap_map]
    simp only [lineF, List.append_assoc]
  have htwo : diffT (toF (filesE B)) (toF (filesE A)) = (N.map fun f => turnM f.2 ++ joinP f.1).flatMap (· ++ [10]) := by
    unfold diffT
    rw [hN', hturn]
    unfold toF
    rw [List.map_map, List.flatMap_map, List.flatMap_map]
    simp only [lineF, Function.comp, List.append_assoc]
  have hb1 : ∀ f ∈ N, f.2 ++ joinP f.1 = f.2.headD 0 :: joinP f.1 := by
    intro f hf
    rcases mark_one hD hf with ⟨e, _⟩ | ⟨e, _⟩ | ⟨e, _⟩ <;> rw [e] <;> rfl
  have hc1 : ∀ f ∈ N, turnM f.2 ++ joinP f.1 = (turnM f.2).headD 0 :: joinP f.1 := by
    intro f hf
    rcases mark_one hD hf with ⟨e, _⟩ | ⟨e, _⟩ | ⟨e, _⟩ <;> rw [e] <;> rfl
  refine ⟨N.map fun f => f.2.headD 0, N.map fun f => (turnM f.2).headD 0, N.map fun f => joinP f.1, by simp, by simp, ?_, ?_, ?_, ?_, ?_, ?_, ?_, ?_, ?_, ?_⟩
  · rw [List.length_map, ← hcount]
    have h1 : cntA (toF (filesE A)) (toF (filesE B)) ≤ (toF (filesE A)).length := List.countP_le_length
    have h2 : cntB (toF (filesE A)) (toF (filesE B)) ≤ (toF (filesE B)).length := List.countP_le_length
    have e1 : (toF (filesE A)).length = (filesE A).length := by unfold toF; simp
    have e2 : (toF (filesE B)).length = (filesE B).length := by unfold toF; simp
    omega
  · rw [hone, zip_map]
    congr 1
    exact List.map_congr_left hb1
  · rw [htwo, zip_map]
    congr 1
    exact List.map_congr_left hc1
  · intro p hp b hb
    rw [List.mem_map] at hp
    obtain ⟨f, hf, rfl⟩ := hp
    exact ((hok f hf).2.2 b hb).2
  · intro b hb
    rw [List.mem_append, List.mem_map, List.mem_map] at hb
    rcases hb with ⟨f, hf, rfl⟩ | ⟨f, hf, rfl⟩
    · rcases mark_one hD hf with ⟨e, _⟩ | ⟨e, _⟩ | ⟨e, _⟩ <;> rw [e] <;> decide
    · rcases mark_one hD hf with ⟨e, _⟩ | ⟨e, _⟩ | ⟨e, _⟩ <;> rw [e] <;> decide
  · intro k hk
    rw [List.length_map] at hk
    simp only [List.getElem_map]
    have hf := List.getElem_mem hk
    have hv := hD.v _ hf
    refine ⟨⟨(hok _ hf).1, (hok _ hf).2.1⟩, ?_⟩
    rw [value_tree hA hv, value_tree hB hv]
    rcases mark_one hD hf with ⟨e, x, y, h1, h2, h3⟩ | ⟨e, x, h2, h3⟩ | ⟨e, y, h2, h3⟩
    · rw [e, h2, h3]; exact .inl ⟨rfl, rfl, x, y, h1, rfl, rfl⟩
    · rw [e, h2, h3]; exact .inr (.inl ⟨rfl, rfl, x, rfl, rfl⟩)
    · rw [e, h2, h3]; exact .inr (.inr ⟨rfl, rfl, y, rfl, rfl⟩)
  · intro k hk
    rw [List.length_map] at hk
    simp only [List.getElem_map]
    have hs := hD.s
    unfold SortedN at hs
    exact lessK_paths (hD.v _ (List.getElem_mem _)) (hD.v _ (List.getElem_mem _)) (List.pairwise_iff_getElem.1 hs k (k + 1) (by omega) hk (by omega))
  · rw [List.length_map]; exact hcount
  · rw [diffK_root hA hB hD, List.length_map]
    congr 1
    rw [decide_eq_decide, List.length_eq_zero_iff]
  · intro p hp
    have := diffK_at hA hB hD hp
    unfold touchK toF at this
    rw [List.any_map] at this ⊢
    exact this

end Go.Proofs.YtdcbgfhkfmohiaaGreatDoor

/- Diffed: what the walk stands on. -/
namespace Go.Proofs.YtdcbgfhkfmohiaaGreatDoor
open Go.RowKit
attribute [local go_sem] Oper.semAt_some

theorem filesK_later {base : Nat} {w w' : World} {v : Value} {l : List Fl} (h : FilesK base w v l) (hb : Below w.heap.size w w') : FilesK base w' v l := rowKept h fun k hk => hb.block k (World.ownsRow.lt h k hk).2
theorem diffed_at {w0 w : World} {T : Bank} {r : RSt} (h : KAt w0 w T r) {a b : Int} {l m : List Fl} (ha : findL r.all a = some l) (hb : findL r.all b = some m) : (∃ bs cs ps, DiffedR l m bs cs ps) ∧ diffR r a b = (diffT l m, 0) ∧ diffR r b a = (diffT m l, 0) ∧ ∀ p, isPlaceL p = true → sameR r a b p = sameF l m p := by
  obtain ⟨A, rfl, k1, k2, k3⟩ := find_wf h.ok h.ag ha
  obtain ⟨B, rfl, j1, j2, j3⟩ := find_wf h.ok h.ag hb
  refine ⟨diffed_pure k1 j1 k2 j2 k3 j3, diffR_go ha hb, diffR_go hb ha, fun p hp => ?_⟩
  unfold sameR
  rw [ha, hb]
  simp only
  rw [hp, if_neg (by simp)]
theorem zip_get {bs : List UInt8} {ps : List Str} {k : Nat} (h1 : k < bs.length) (h2 : k < ps.length) (h3 : k < (List.zipWith (fun b p => b :: p) bs ps).length) : (List.zipWith (fun b p => b :: p) bs ps)[k] = bs[k] :: ps[k] := by simp
theorem zip_len {bs : List UInt8} {ps : List Str} (h : bs.length = ps.length) : (List.zipWith (fun b p => b :: p) bs ps).length = ps.length := by simp [h]
theorem zip_text {bs : List UInt8} {ps : List Str} (h : bs.length = ps.length) (hf : ∀ p ∈ ps, ∀ b ∈ p, b ≠ (10 : UInt8)) (hm : ∀ b ∈ bs, b ≠ (10 : UInt8)) (hl : ∀ p ∈ ps, p.length ≤ 44) (h40 : ps.length ≤ 40) :
    (∀ x ∈ List.zipWith (fun b p => b :: p) bs ps, ∀ b ∈ x, b ≠ (10 : UInt8)) ∧ ((List.zipWith (fun b p => b :: p) bs ps).flatMap (· ++ [10])).length ≤ 5000 := by
  have hmem : ∀ x ∈ List.zipWith (fun b p => b :: p) bs ps, ∃ b ∈ bs, ∃ p ∈ ps, x = b :: p := by
    intro x hx
    obtain ⟨k, hk, rfl⟩ := List.getElem_of_mem hx
    have h3 := hk
    rw [zip_len h] at h3
    exact ⟨bs[k], List.getElem_mem _, ps[k], List.getElem_mem _, zip_get (by omega) h3 hk⟩
  constructor
  · intro x hx b hb
    obtain ⟨c, hc, p, hp, rfl⟩ := hmem x hx
    rw [List.mem_cons] at hb
    rcases hb with rfl | hb
    · exact hm _ hc
    · exact hf p hp b hb
  · have := flatM_len (fun x : Str => x ++ [10]) 46 (List.zipWith (fun b p => b :: p) bs ps) (fun x hx => by
      obtain ⟨c, hc, p, hp, rfl⟩ := hmem x hx
      have := hl p hp
      simp; omega)
    have h2 := zip_len h
    have h3 : (List.zipWith (fun b p => b :: p) bs ps).length * 46 ≤ 40 * 46 := Nat.mul_le_mul_right _ (by omega)
    exact Nat.le_trans this (by omega)

end Go.Proofs.YtdcbgfhkfmohiaaGreatDoor
