/- Shared: the statement's lists in memory, and what it asks in pure words. -/
import Derived.Test.YtdcbgfhkfmohiaaGreatDoorKb31
namespace Go.Proofs.YtdcbgfhkfmohiaaGreatDoor
open Go.RowKit

/-- The list of numbers beside the store. -/
structure NumsAt (w0 w : World) (T : Bank) (u : Value) (ns : List Nat) : Prop where
  row : w.ownsRow w0.heap.size 3 1 u ns.length (intsV ns)
  out : ∀ k, u.ownBlock = some k → ¬ T.own k ∧ k ≠ T.rr
theorem NumsAt.edit {w0 w w' : World} {T T' : Bank} {u : Value} {ns : List Nat} (h : NumsAt w0 w T u ns) (h3 : Ext w.heap.size w T w' T') : NumsAt w0 w' T' u ns := by
  refine ⟨rowKept h.row fun j hj => (ext_free h3 (h.row.lt j hj).2 (h.out j hj).1).2, fun k hk => ?_⟩
  rw [show T'.rr = T.rr from h3.four.2.2.2.2]
  exact ⟨(ext_free h3 (h.row.lt k hk).2 (h.out k hk).1).1, (h.out k hk).2⟩
theorem NumsAt.below {w0 w w' : World} {T : Bank} {u : Value} {ns : List Nat} (h : NumsAt w0 w T u ns) (hb : Below w.heap.size w w') : NumsAt w0 w' T u ns :=
  ⟨rowKept h.row fun j hj => hb.block j (h.row.lt j hj).2, h.out⟩
/-- A block that is not the store's. -/
def FreeB (w : World) (T : Bank) (g : Nat) (o : Obj) : Prop := w.heap[g]? = some o ∧ ¬ T.own g
theorem FreeB.edit {w w' : World} {T T' : Bank} {g : Nat} {o : Obj} (h : FreeB w T g o) (h3 : Ext w.heap.size w T w' T') : FreeB w' T' g o := by
  have := ext_free h3 (Array.getElem?_eq_some_iff.1 h.1).1 h.2
  exact ⟨this.2.trans h.1, this.1⟩
theorem FreeB.below {w w' : World} {T : Bank} {g : Nat} {o : Obj} (h : FreeB w T g o) (hb : Below w.heap.size w w') : FreeB w' T g o := ⟨(hb.block g (Array.getElem?_eq_some_iff.1 h.1).1).trans h.1, h.2⟩
theorem Played.good {r : RSt} {ns : List Nat} (h : Played r ns) : ∀ x ∈ r.all, GoodL x.2 := by
  induction h with
  | start => exact good_start
  | @more r ns n o r' m h hl hn ho ih =>
    have hg := grew_good ih (play_good r n o ih)
    rw [ho] at hg
    exact hg
theorem KAt.cells {w0 w : World} {T : Bank} {r : RSt} (h : KAt w0 w T r) : Calls Tryz.prog 16 #[ptrV T.sb] w fun e w' => e = .returned (.int .i64 (cellsOf r : Nat)) ∧ Below w.heap.size w w' := by
  refine (bankCells_any T w h.ok.at' (by have := h.ok.room; omega)).mono ?_
  rintro e w' ⟨rfl, n, rfl⟩
  rw [Agree.cells h.ok h.ag]
  exact ⟨rfl, below_like rfl rfl rfl rfl⟩
theorem KAt.room {w0 w : World} {T : Bank} {r : RSt} (h : KAt w0 w T r) : cellsOf r ≤ r.limit := by
  rw [Agree.cells h.ok h.ag, ← h.ag.room]; exact h.ok.room.1
theorem toF_mem {L : List NF} {x : Fl} (h : x ∈ toF L) : ∃ f ∈ L, x = (joinP f.1, f.2) := by
  unfold toF at h
  rw [List.mem_map] at h
  obtain ⟨f, h1, rfl⟩ := h
  exact ⟨f, h1, rfl⟩

def moreR (r : RSt) (l : List Fl) : RSt := { r with all := r.all ++ [(r.made, l)], made := r.made + 1 }
theorem keep_go {r : RSt} {l : List Fl} {n : Int} (h : r.all.length < 12) (hf : findL r.all n = some l) (hc : cellsOf r ≤ r.limit) : keepR r l = (moreR r l, r.made, 0) := by
  rw [keepR_ok h]
  · rfl
  · rw [cells_more hf]; omega
/-- What Shared asks. -/
structure SharedR (r : RSt) (n : Nat) (last : Nat) (l : List Fl) (p d : Str) : Prop where
  put : putR r n p d = (moreR r l, r.made, 0)
  cells : cellsOf (moreR r l) = cellsOf r
  same : sameR (moreR r l) n r.made [47] = (true, 0)
  gone : releaseR (moreR r l) r.made = ({ r with made := r.made + 1 }, 0)
  move : moveR { r with made := r.made + 1 } n p tMoved = ({ r with made := r.made + 1 }, 0, 7) ∨ moveR { r with made := r.made + 1 } n p tMoved = ({ r with made := r.made + 1 }, 0, 8) ∨
    ∃ l', moveR { r with made := r.made + 1 } n p tMoved = (moreR { r with made := r.made + 1 } l', r.made + 1, 0) ∧ ∃ r4, releaseR (moreR { r with made := r.made + 1 } l') last = (r4, 0) ∧ r4.made = r.made + 2 ∧ (last ≠ n → cellsOf r4 ≤ r4.limit → moveR r4 ((r.made + 1 : Nat) : Int) tMoved p = (moreR r4 l, r4.made, 0) ∧ sameR (moreR r4 l) n r4.made [47] = (true, 0))
theorem shared_pure {w0 w : World} {T : Bank} {r : RSt} {ns : List Nat} (h : KAt w0 w T r) (hp : Played r ns) {n last : Nat} (hn : n ∈ ns) (hl : last ∈ ns) {l : List Fl} (hf : findL r.all (n : Int) = some l) {x : Fl} (hx : x ∈ l) : SharedR r n last l x.1 x.2 := by
  obtain ⟨es, rfl, hw, h5, h20⟩ := find_wf h.ok h.ag hf
  obtain ⟨f, hfm, rfl⟩ := toF_mem hx
  obtain ⟨k0, hk0, _⟩ := findL_mem hf
  obtain ⟨L, hL, hg⟩ := hp.good _ hk0
  have hLe : filesE es = L := toF_inj (valid_files hw).1 hg.v hL
  rw [hLe] at hf hfm hx ⊢
  have hap : Apart L := hLe ▸ apart_files hw
  have hfo : FileOk (joinP f.1) := by rw [← hLe] at hfm; exact file_ok hw h5 hfm
  have hd : f.2.length ≤ 30 := by rw [← hLe] at hfm; exact (valid_files hw).2 f hfm
  obtain ⟨hnum, _, _, h11, hlt, hpw, _⟩ := hp.facts
  have hall : r.all.length ≤ 11 := by rw [← hnum] at h11; simpa using h11
  have hfr : ∀ y ∈ r.all, y.1 ≠ r.made := fun y hy e => by
    have := hlt y.1 (by rw [← hnum]; exact List.mem_map_of_mem hy)
    omega
  have hnm : n < r.made := hlt n hn
  have hlm : last < r.made := hlt last hl
  have hmore : findL (moreR r (toF L)).all (n : Int) = some (toF L) := by show findL (r.all ++ [(r.made, toF L)]) (n : Int) = _; rw [findL_old (by omega)]; exact hf
  refine ⟨?_, ?_, ?_, ?_, ?_⟩
  · rw [put_twice hf hg hap hfm hfo.path hd, keep_go (by omega) hf h.room]
  · exact cells_more hf r.made
  · exact same_root hmore (findL_app hfr)
  · have e : findL (moreR r (toF L)).all (r.made : Int) = some (toF L) := findL_app hfr
    unfold releaseR
    rw [e]
    simp only [moreR, List.filter_append]
    congr 2
    rw [List.filter_eq_self.2 (fun y hy => by have := hfr y hy; simp; omega)]
    simp
  · obtain ⟨L', h1, h2, h3, h4⟩ := move_one (r := { r with made := r.made + 1 }) hf hg.v hg.s hap hfm hfo.path moved_path.1 (moved_fresh hg).1 (moved_fresh hg).2
    rw [h1]
    rw [moved_path.2] at h4
    have hk := keep_grew (P := fun _ => True) { r with made := r.made + 1 } (toF L') trivial
    unfold keepR
    rw [if_neg (by show ¬ 12 ≤ r.all.length; omega)]
    by_cases hc : ({ r with made := r.made + 1 } : RSt).limit < cellsOf { ({ r with made := r.made + 1 } : RSt) with all := r.all ++ [(r.made + 1, toF L')] }
    · exact .inr (.inl (by rw [if_pos hc]))
    · refine .inr (.inr ⟨toF L', by rw [if_neg hc]; rfl, ?_⟩)
      obtain ⟨ll, hll⟩ := hp.find hl
      have hfl : findL (moreR { r with made := r.made + 1 } (toF L')).all (last : Int) = some ll := by show findL (r.all ++ [(r.made + 1, toF L')]) (last : Int) = _; rw [findL_old (by omega)]; exact hll
      refine ⟨{ moreR { r with made := r.made + 1 } (toF L') with all := (moreR { r with made := r.made + 1 } (toF L')).all.filter fun x => !((x.1 : Int) == (last : Int)) }, by unfold releaseR; rw [hfl], rfl, fun hne hc4 => ?_⟩
      have f1 : findL ((moreR { r with made := r.made + 1 } (toF L')).all.filter fun x => !((x.1 : Int) == (last : Int))) ((r.made + 1 : Nat) : Int) = some (toF L') := by
        rw [findL_gone (by omega)]
        exact findL_app (m := r.made + 1) fun y hy e => by
          have := hlt y.1 (by rw [← hnum]; exact List.mem_map_of_mem hy)
          omega
      have f2 : findL ((moreR { r with made := r.made + 1 } (toF L')).all.filter fun x => !((x.1 : Int) == (last : Int))) (n : Int) = some (toF L) := by
        rw [findL_gone (Ne.symm hne)]
        show findL (r.all ++ [(r.made + 1, toF L')]) (n : Int) = _
        rw [findL_old (by omega)]; exact hf
      have hlen : ((moreR { r with made := r.made + 1 } (toF L')).all.filter fun x => !((x.1 : Int) == (last : Int))).length < 12 := by
        obtain ⟨k1, hk1, ek1⟩ := findL_mem hfl
        have h6 : ((moreR { r with made := r.made + 1 } (toF L')).all.filter fun x => !((x.1 : Int) == (last : Int))).length < (moreR { r with made := r.made + 1 } (toF L')).all.length := by
          rw [List.length_filter_lt_length_iff_exists]
          exact ⟨_, hk1, by simp; omega⟩
        have h7 : (moreR { r with made := r.made + 1 } (toF L')).all.length = r.all.length + 1 := by simp [moreR]
        omega
      refine ⟨?_, ?_⟩
      · rw [move_back hg hap hfm hfo.path h2 h3 h4 f1, keep_go hlen f2 hc4]
      · refine same_root (l := toF L) ?_ ?_
        · show findL (_ ++ [(_, toF L)]) (n : Int) = _
          rw [findL_old (by show n ≠ r.made + 1 + 1; omega)]; exact f2
        · refine findL_app fun y hy e => ?_
          have h8 := (List.mem_filter.1 hy).1
          simp only [moreR, List.mem_append, List.mem_singleton] at h8
          rcases h8 with h8 | rfl
          · have := hlt y.1 (by rw [← hnum]; exact List.mem_map_of_mem h8)
            simp only [moreR] at e; omega
          · simp only [moreR] at e; omega

end Go.Proofs.YtdcbgfhkfmohiaaGreatDoor

/- Edited: what must be at a path behind an edit. No program. -/
namespace Go.Proofs.YtdcbgfhkfmohiaaGreatDoor
open Go.RowKit

def aK (o : KStep) : Str := if kN o.K 6 = 5 then pathK (kN (o.A.tmod 20) 84) else pathK (kN o.A 84)
def bK (o : KStep) : Str := if kN o.K 6 = 5 then pathK (kN (o.B.tmod 20) 84) else pathK (kN o.B 84)
def wantK (o : KStep) (l : List Fl) (p : Str) : Str × Bool :=
  if kN o.K 6 < 3 then wantPut l (aK o) (datK (kN o.B 5)) p else if kN o.K 6 = 3 then wantDel l (aK o) p else wantMove l (aK o) (bK o) p
theorem path_ne_root {p : Str} (h : isPathL p = true) : (p == [47]) = false := by
  cases hq : p == [47]
  · rfl
  · rw [beq_iff_eq] at hq
    subst hq
    exact absurd h (by decide)
/-- What Edited asks, of the store that was and the one that is. -/
structure EditedR (r : RSt) (n : Nat) (o : KStep) (l l' : List Fl) : Prop where
  val : ∀ p, isPathL p = true → valueK l' p = wantK o l p
  old : findL (r.all ++ [(r.made, l')]) (n : Int) = some l
  new : findL (r.all ++ [(r.made, l')]) (r.made : Int) = some l'
theorem files_paths {w0 w : World} {T : Bank} {r : RSt} (h : KAt w0 w T r) {n : Int} {l : List Fl} (hf : findL r.all n = some l) : l.length ≤ 20 ∧ ∀ f ∈ l, isPathL f.1 = true ∧ f.1.length ≤ 44 := by
  obtain ⟨es, rfl, hw, h5, h20⟩ := find_wf h.ok h.ag hf
  refine ⟨by unfold toF; rw [List.length_map]; exact h20, fun f hm => ?_⟩
  obtain ⟨g, hg, rfl⟩ := toF_mem hm
  exact ⟨(file_ok hw h5 hg).path, (file_ok hw h5 hg).short⟩

end Go.Proofs.YtdcbgfhkfmohiaaGreatDoor

/- Diffed: what the lines of a difference say. No program. -/
namespace Go.Proofs.YtdcbgfhkfmohiaaGreatDoor
open Go.RowKit

/-- The bytes of a name. -/
def NameB (x : Str) : Prop := ∀ b ∈ x, b ≠ (47 : UInt8) ∧ 0 < b.toNat
theorem name_bytes {x : Str} (h : isNameL x false = true) : NameB x := by
  unfold isNameL at h
  simp only [Bool.and_eq_true, List.all_eq_true] at h
  intro b hb
  have := h.2 b hb
  unfold okByte at this
  simp only [Bool.or_eq_true, decide_eq_true_eq, Bool.false_and, Bool.false_eq_true, or_false] at this
  refine ⟨?_, by omega⟩
  intro e
  subst e
  have h47 : (47 : UInt8).toNat = 47 := rfl
  omega
theorem keyB_name {b : UInt8} (h : b ≠ 47) : keyB b = b.toNat := by unfold keyB; rw [if_neg h]
theorem lessK_names {x y a b : Str} (hx : NameB x) (hy : NameB y) (ha : a = [] ∨ ∃ a', a = 47 :: a') (h : Op.bytesLess x y = true) : lessK (x ++ a) (y ++ b) = true := by
  induction x generalizing y with
  | nil =>
    cases y with
    | nil => simp [Op.bytesLess] at h
    | cons d y =>
      have hd := hy d (by simp)
      rcases ha with rfl | ⟨a', rfl⟩
      · simp [lessK]
      · rw [List.nil_append, List.cons_append, lessK, keyB_name hd.1]
        have : keyB 47 = 0 := rfl
        rw [this, if_neg (by omega)]
        simpa using hd.2
  | cons c x ih =>
    cases y with
    | nil => simp [Op.bytesLess] at h
    | cons d y =>
      have hc := hx c (by simp)
      have hd := hy d (by simp)
      rw [List.cons_append, List.cons_append, lessK, keyB_name hc.1, keyB_name hd.1]
      rw [Op.bytesLess, Bool.or_eq_true, Bool.and_eq_true, decide_eq_true_eq, beq_iff_eq] at h
      rcases h with h | ⟨h1, h2⟩
      · have h3 : c.toNat < d.toNat := h
        rw [if_neg (by omega)]
        simpa using h3
      · subst h1
        rw [if_pos rfl]
        exact ih (fun z hz => hx z (by simp [hz])) (fun z hz => hy z (by simp [hz])) h2
theorem lessK_same (x a b : Str) : lessK (x ++ a) (x ++ b) = lessK a b := by
  induction x with
  | nil => rfl
  | cons c x ih => rw [List.cons_append, List.cons_append, lessK, if_pos rfl, ih]
theorem lessK_paths {P Q : List Str} (hP : OkN P) (hQ : OkN Q) (h : lessS P Q = true) : lessK (joinP P) (joinP Q) = true := by
  induction P generalizing Q with
  | nil => exact absurd rfl hP.1
  | cons x P ih =>
    cases Q with
    | nil => exact absurd rfl hQ.1
    | cons y Q =>
      have hx := name_bytes (hP.2 x (by simp))
      have hy := name_bytes (hQ.2 y (by simp))
      rw [lessS] at h
      by_cases e : x = y
      · subst e
        rw [if_pos rfl] at h
        cases Q with
        | nil => cases P <;> simp [lessS] at h
        | cons z Q =>
          rw [joinP_cons (r := z :: Q) (by simp)]
          cases P with
          | nil =>
            have := lessK_same x [] (47 :: joinP (z :: Q))
            rw [List.append_nil] at this
            show lessK (joinP [x]) _ = true
            rw [show joinP [x] = x from rfl, this]
            simp [lessK]
          | cons u P =>
            rw [joinP_cons (r := u :: P) (by simp), lessK_same, lessK, if_pos rfl]
            exact ih ⟨by simp, fun z' hz' => hP.2 z' (by simp at hz' ⊢; exact .inr hz')⟩ ⟨by simp, fun z' hz' => hQ.2 z' (by simp at hz' ⊢; exact .inr hz')⟩ h
      · rw [if_neg e] at h
        have hja : ∃ a, joinP (x :: P) = x ++ a ∧ (a = [] ∨ ∃ a', a = 47 :: a') := by
          cases P with
          | nil => exact ⟨[], by simp [joinP], .inl rfl⟩
          | cons u P => exact ⟨_, joinP_cons (by simp), .inr ⟨_, rfl⟩⟩
        have hjb : ∃ b, joinP (y :: Q) = y ++ b := by
          cases Q with
          | nil => exact ⟨[], by simp [joinP]⟩
          | cons u Q => exact ⟨_, joinP_cons (by simp)⟩
        obtain ⟨a, ea, ha⟩ := hja
        obtain ⟨b, eb⟩ := hjb
        rw [ea, eb]
        exact lessK_names hx hy ha h

/-- What a line says of a path. -/
def markK (a b : Option Str) : Option Str := match a, b with
  | some x, some y => if x = y then none else some [126]
  | some _, none => some [45]
  | none, some _ => some [43]
  | none, none => none
def turnM (k : Str) : Str := if k = [45] then [43] else if k = [43] then [45] else k
/-- The lines of a difference, as names and marks. -/
structure DiffK (A B : Ents) (N : List NF) : Prop where
  v : ValidN N
  s : SortedN N
  mem : ∀ x, x ∈ N ↔ markK (fileAt (.dir A) x.1) (fileAt (.dir B) x.1) = some x.2
theorem value_tree {A : Ents} (hA : WFE A) {P : List Str} (hP : OkN P) : valueK (toF (filesE A)) (joinP P) = match fileAt (.dir A) P with
    | some d => (d, true)
    | none => ([], false) := by
  rcases value_names (valid_files hA).1 (sorted_filesE A hA) hP with ⟨d, h1, h2⟩ | ⟨h1, h2⟩
  · rw [(mem_root hA _ _).1 h1]; exact h2
  · cases hf : fileAt (.dir A) P with
    | none => exact h2
    | some d => exact absurd ((mem_root hA _ _).2 hf) (h1 d)
/-- How many lines there are. -/
def cntA (l m : List Fl) : Nat := l.countP fun f => !(valueK m f.1).2 || !((valueK m f.1).1 == f.2)
def cntB (l m : List Fl) : Nat := m.countP fun f => !(valueK l f.1).2
/-- Does a line speak of a path, of what lies in it, or of what it lies in? -/
def touchK (N : List NF) (p : Str) : Bool := (toF N).any fun f => ((f.1 == p) || !(belowL f.1 p).isEmpty) || !(belowL p f.1).isEmpty
end Go.Proofs.YtdcbgfhkfmohiaaGreatDoor

/- The statements about what a store tells of itself: patterns and questions of raw numbers. -/
namespace Go.Proofs.YtdcbgfhkfmohiaaGreatDoor
open Go.RowKit
attribute [local go_sem] Oper.semAt_some

def ptK : Nat → Str
  | 0 => [42, 42]
  | 1 => [97]
  | 2 => [42]
  | 3 => [63]
  | 4 => [42, 46, 104]
  | 5 => [97, 42]
  | 6 => [42, 98]
  | _ => [63, 46, 63]
def patK (n : Nat) : Str :=
  if n < 8 then ptK n
  else if n < 72 then ptK ((n - 8) / 8) ++ [47] ++ ptK ((n - 8) % 8)
  else ptK ((n - 72) / 64) ++ [47] ++ ptK ((n - 72) / 8 % 8) ++ [47] ++ ptK ((n - 72) % 8)
theorem pt_cell {w : World} {g j : Nat} (h : w.heap[g]? = some (.cells #[.string ⟨#[42, 42]⟩, .string ⟨#[97]⟩, .string ⟨#[42]⟩, .string ⟨#[63]⟩, .string ⟨#[42, 46, 104]⟩, .string ⟨#[97, 42]⟩, .string ⟨#[42, 98]⟩, .string ⟨#[63, 46, 63]⟩] 9 (0, 0))) (hj : j < 8) : w.cell? ⟨g, j, none⟩ = some (SV (ptK j)) := by
  rcases (show j = 0 ∨ j = 1 ∨ j = 2 ∨ j = 3 ∨ j = 4 ∨ j = 5 ∨ j = 6 ∨ j = 7 by omega) with rfl | rfl | rfl | rfl | rfl | rfl | rfl | rfl <;> exact (blk_cell h _).trans rfl
theorem pt_len (j : Nat) : (ptK j).length ≤ 3 := by
  unfold ptK; split <;> simp
theorem pat_len (n : Nat) : (patK n).length ≤ 11 := by
  unfold patK
  split
  · have := pt_len n; omega
  · split
    · have := pt_len ((n - 8) / 8); have := pt_len ((n - 8) % 8); simp; omega
    · have := pt_len ((n - 72) / 64); have := pt_len ((n - 72) / 8 % 8); have := pt_len ((n - 72) % 8); simp; omega
theorem path_len (n : Nat) : (pathK n).length ≤ 11 := by
  unfold pathK
  split
  · have := nm_len n; omega
  · split
    · have := nm_len ((n - 4) / 4); have := nm_len ((n - 4) % 4); simp; omega
    · have := nm_len ((n - 20) / 16); have := nm_len ((n - 20) / 4 % 4); have := nm_len ((n - 20) % 4); simp; omega

set_option maxHeartbeats 8000000 in
set_option maxRecDepth 50000 in
theorem kPattern_any (c : Int) (w : World) (hc : kIn c) : Calls Tryz.prog 31 #[.int .i64 c] w fun e w' => KText w (patK (kN c 584)) e w' := by
  have hap := app_list
  obtain ⟨w1, hw1⟩ : ∃ w1, w1 = w.alloc (.cells #[.string ⟨#[42, 42]⟩, .string ⟨#[97]⟩, .string ⟨#[42]⟩, .string ⟨#[63]⟩, .string ⟨#[42, 46, 104]⟩, .string ⟨#[97, 42]⟩, .string ⟨#[42, 98]⟩, .string ⟨#[63, 46, 63]⟩] 9) := ⟨_, rfl⟩
  have hb1 : Below w.heap.size w w1 := by rw [hw1]; exact (Below.refl _ _).alloc (Nat.le_refl _) _
  have hn1 : w1.heap[w.heap.size]? = some (.cells #[.string ⟨#[42, 42]⟩, .string ⟨#[97]⟩, .string ⟨#[42]⟩, .string ⟨#[63]⟩, .string ⟨#[42, 46, 104]⟩, .string ⟨#[97, 42]⟩, .string ⟨#[42, 98]⟩, .string ⟨#[63, 46, 63]⟩] 9 (0, 0)) := by rw [hw1]; exact heap_alloc_new _ _
  have hs1 : w.heap.size < w1.heap.size := (Array.getElem?_eq_some_iff.1 hn1).1
  have C := kPick_any c 584 w1 hc (by omega) (by omega)
  have hk := kN_lt c (n := 584) (by omega)
  generalize kN c 584 = k at *
  have HW1 : Hid _ := hw1
  have HB1 : Hid _ := hb1
  have HN1 : Hid _ := hn1
  clear hw1 hb1 hn1
  by_cases h4 : k < 8
  · have ck := pt_cell HN1.out h4
    have R : Hid (KText w (patK k) (.returned (SV (ptK k))) w1) := ⟨by rw [patK, if_pos h4], HB1.out⟩
    have h4i : (k : Int) < 8 := by omega
    clear HN1 HB1
    generalize ptK k = d at *
    go_enter Tryz.func31, Tryz.ntmps31
    go_wp2_with fail
    rw [← HW1.out]
    refine C.mono ?_
    rintro e w1 ⟨rfl, rfl⟩
    clear HW1
    go_wp2
    go_ret
    exact R.out
  · obtain ⟨m, hm⟩ : ∃ m, m = k - 8 := ⟨_, rfl⟩
    have h4i : ¬ ((k : Int) < 8) := by omega
    have e4 : ((k : Int) - 8) = (m : Int) := by omega
    by_cases h16 : m < 64
    · have h16i : (m : Int) < 64 := by omega
      have d1 : (m : Int).tdiv 8 = ((m / 8 : Nat) : Int) := by rw [Int.tdiv_eq_ediv_of_nonneg (by omega)]; omega
      have d2 : (m : Int).tmod 8 = ((m % 8 : Nat) : Int) := by rw [Int.tmod_eq_emod_of_nonneg (by omega)]; omega
      have c1 := pt_cell HN1.out (show m / 8 < 8 by omega)
      have c2 := pt_cell HN1.out (show m % 8 < 8 by omega)
      have l1 := pt_len (m / 8)
      have l2 := pt_len (m % 8)
      have R : Hid (KText w (patK k) (.returned (SV (ptK (m / 8) ++ 47 :: ptK (m % 8)))) w1) := ⟨by rw [patK, if_neg h4, if_pos (by omega), ← hm]; simp, HB1.out⟩
      have i1 : ((m / 8 : Nat) : Int) < 8 := by omega
      have i2 : ((m % 8 : Nat) : Int) < 8 := by omega
      clear HN1 HB1 hk h16 hm
      go_enter Tryz.func31, Tryz.ntmps31
      go_wp2_with fail
      rw [← HW1.out]
      refine C.mono ?_
      rintro e w1 ⟨rfl, rfl⟩
      clear HW1
      go_wp2
      go_quiet (fail)
      go_wp2
      go_ret
      exact ⟨R.out.1, below_drewN R.out.2 _⟩
    · obtain ⟨q, hq⟩ : ∃ q, q = k - 72 := ⟨_, rfl⟩
      have h16i : ¬ ((m : Int) < 64) := by omega
      have e16 : ((m : Int) - 64) = (q : Int) := by omega
      have d1 : (q : Int).tdiv 64 = ((q / 64 : Nat) : Int) := by rw [Int.tdiv_eq_ediv_of_nonneg (by omega)]; omega
      have d2 : (q : Int).tdiv 8 = ((q / 8 : Nat) : Int) := by rw [Int.tdiv_eq_ediv_of_nonneg (by omega)]; omega
      have d3 : ((q / 8 : Nat) : Int).tmod 8 = ((q / 8 % 8 : Nat) : Int) := by rw [Int.tmod_eq_emod_of_nonneg (by omega)]; omega
      have d4 : (q : Int).tmod 8 = ((q % 8 : Nat) : Int) := by rw [Int.tmod_eq_emod_of_nonneg (by omega)]; omega
      have c1 := pt_cell HN1.out (show q / 64 < 8 by omega)
      have c2 := pt_cell HN1.out (show q / 8 % 8 < 8 by omega)
      have c3 := pt_cell HN1.out (show q % 8 < 8 by omega)
      have l1 := pt_len (q / 64)
      have l2 := pt_len (q / 8 % 8)
      have l3 := pt_len (q % 8)
      have R : Hid (KText w (patK k) (.returned (SV (ptK (q / 64) ++ 47 :: (ptK (q / 8 % 8) ++ 47 :: ptK (q % 8))))) w1) := ⟨by rw [patK, if_neg h4, if_neg (by omega), ← hq]; simp, HB1.out⟩
      have i1 : ((q / 64 : Nat) : Int) < 8 := by omega
      have i2 : ((q / 8 % 8 : Nat) : Int) < 8 := by omega
      have i3 : ((q % 8 : Nat) : Int) < 8 := by omega
      clear HN1 HB1 hk hm hq
      go_enter Tryz.func31, Tryz.ntmps31
      go_wp2_with fail
      rw [← HW1.out]
      refine C.mono ?_
      rintro e w1 ⟨rfl, rfl⟩
      clear HW1
      go_wp2
      go_quiet (fail)
      go_wp2
      go_ret
      exact ⟨R.out.1, below_drewN R.out.2 _⟩

end Go.Proofs.YtdcbgfhkfmohiaaGreatDoor

/- The statements about what a store tells of itself: questions of raw numbers. -/
namespace Go.Proofs.YtdcbgfhkfmohiaaGreatDoor
open Go.RowKit
attribute [local go_sem] Oper.semAt_some

def wEx : Str := [101, 120, 105, 115, 116, 115, 32]
def wLi : Str := [108, 105, 115, 116, 32]
def wRe : Str := [114, 101, 97, 100, 32]
def wFi : Str := [102, 105, 114, 115, 116, 32, 97, 32]
def wGl : Str := [103, 108, 111, 98, 32]
def questN (k p t : Nat) : Str :=
  if k = 0 then wEx ++ pathK p else if k = 1 then wLi ++ pathK p else if k = 2 then wRe ++ pathK p else if k = 3 then wFi ++ pathK p ++ [32, 98, 32, 47] else wGl ++ patK t
def questK (c d : Int) : Str := questN (kN c 5) (kN d 84) (kN d 584)
theorem quest_paths : ∀ p : Fin 84, checkL (wEx ++ pathK p.1) = 0 ∧ checkL (wLi ++ pathK p.1) = 0 ∧ checkL (wRe ++ pathK p.1) = 0 ∧ checkL (wFi ++ pathK p.1 ++ [32, 98, 32, 47]) = 0 := by decide +kernel
theorem quest_pats : ∀ p : Fin 584, checkL (wGl ++ patK p.1) = 0 := by decide +kernel
end Go.Proofs.YtdcbgfhkfmohiaaGreatDoor

/- Found: what the statement's own words mean. No program. -/
namespace Go.Proofs.YtdcbgfhkfmohiaaGreatDoor
open Go.RowKit

theorem cutK_nil : cutK [] = ([], [], false) := rfl
theorem cutK_cons (b : UInt8) (t : Str) : cutK (b :: t) = if b = 47 then ([], t, true) else (b :: (cutK t).1, (cutK t).2.1, (cutK t).2.2) := by
  unfold cutK
  rw [List.findIdx?_cons]
  by_cases h : b = 47
  · rw [if_pos h]; simp [h]
  · rw [if_neg h]
    have : (b == 47) = false := by simpa using h
    rw [this]
    cases ht : t.findIdx? (· == 47) with
    | none => simp
    | some k => simp
theorem cut_split (s : Str) : splitL 47 s = (cutK s).1 :: (if (cutK s).2.2 = true then splitL 47 (cutK s).2.1 else []) := by
  induction s with
  | nil => rfl
  | cons b t ih =>
    rw [cutK_cons, show splitL 47 (b :: t) = if b = 47 then [] :: splitL 47 t else (match splitL 47 t with | h :: r => (b :: h) :: r | [] => [[b]]) from rfl]
    by_cases h : b = 47
    · rw [if_pos h, if_pos h]; rfl
    · rw [if_neg h, if_neg h, ih]
theorem cut_len (s : Str) : (cutK s).1.length ≤ s.length ∧ (cutK s).2.1.length ≤ s.length ∧ ((cutK s).2.2 = true → (cutK s).2.1.length < s.length) := by
  induction s with
  | nil => rw [cutK_nil]; simp
  | cons b t ih =>
    rw [cutK_cons]
    by_cases h : b = 47
    · rw [if_pos h]; simp
    · rw [if_neg h]
      simp only [List.length_cons]
      exact ⟨by omega, by omega, fun h => by have := ih.2.2 h; omega⟩

theorem laid_end_all (ps : List Str) : laidL runS spelledL ps [] = ps.all runS := by
  induction ps with
  | nil => rfl
  | cons p ps ih =>
    cases h : runS p
    · simp [laidL, h]
    · simp [laidL, h, ih]
theorem laid_all {ps xs : List Str} (h : ps ≠ []) (ha : ps.all runS = true) : laidL runS spelledL ps xs = true := by
  cases ps with
  | nil => exact absurd rfl h
  | cons p ps =>
    rw [List.all_cons, Bool.and_eq_true] at ha
    exact (laid_run ha.1).2 ⟨xs, [], by simp, by rw [laid_end_all]; exact ha.2⟩
theorem laid_step {p x : Str} {ps xs : List Str} (h : runS p = true) (hps : ps ≠ []) : laidL runS spelledL (p :: ps) (x :: xs) = (laidL runS spelledL ps (x :: xs) || (!xs.isEmpty && laidL runS spelledL (p :: ps) xs)) := by
  rw [Bool.eq_iff_iff, laid_run h, Bool.or_eq_true, Bool.and_eq_true, laid_run h]
  constructor
  · rintro ⟨ys, zs, e, hl⟩
    cases ys with
    | nil => exact .inl (by rw [List.nil_append] at e; rw [e]; exact hl)
    | cons y ys =>
      rw [List.cons_append, List.cons.injEq] at e
      cases hx : xs with
      | nil =>
        rw [hx] at e
        obtain ⟨rfl, rfl⟩ := List.append_eq_nil_iff.1 e.2.symm
        rw [laid_end_all] at hl
        exact .inl (laid_all hps hl)
      | cons a r => exact .inr ⟨rfl, ys, zs, by rw [← hx]; exact e.2, hl⟩
  · rintro (hl | ⟨_, ys, zs, e, hl⟩)
    · exact ⟨[], x :: xs, rfl, hl⟩
    · exact ⟨x :: ys, zs, by rw [e]; rfl, hl⟩
/-- Of a pattern's rest: is each of its parts one that runs? -/
def runsK (more : Bool) (rest : Str) : Bool := if more = true then (splitL 47 rest).all runS else true
theorem runsK_step (rest : Str) : runsK true rest = (runS (cutK rest).1 && runsK (cutK rest).2.2 (cutK rest).2.1) := by
  unfold runsK
  rw [if_pos rfl, cut_split, List.all_cons]
  congr 1
  cases (cutK rest).2.2 <;> rfl
section
variable {pat p part rest name behind : Str} {more deeper : Bool}
theorem fits_lists (h1 : cutK pat = (part, rest, more)) (h2 : cutK p = (name, behind, deeper)) : fitsL pat p = laidL runS spelledL (part :: (if more = true then splitL 47 rest else [])) (name :: (if deeper = true then splitL 47 behind else [])) := by
  unfold fitsL
  rw [cut_split pat, cut_split p, h1, h2]
theorem fits_last (h1 : cutK pat = (part, rest, false)) (h : runS part = true) : fitsL pat p = true := by
  rw [fits_lists h1 (h2 := rfl)]
  exact laid_all (by simp) (by simp [h])
theorem fits_run (h1 : cutK pat = (part, rest, true)) (h2 : cutK p = (name, behind, deeper)) (h : runS part = true) : fitsL pat p = (fitsL rest p || (deeper && fitsL pat behind)) := by
  rw [fits_lists h1 h2]
  simp only [if_true]
  rw [laid_step h (splitL_ne _ _)]
  congr 1
  · unfold fitsL; rw [cut_split p, h2]
  · cases deeper
    · rfl
    · simp only [if_true, Bool.true_and]
      have : (splitL 47 behind).isEmpty = false := by
        cases hs : splitL 47 behind with
        | nil => exact absurd hs (splitL_ne _ _)
        | cons _ _ => rfl
      rw [this]
      unfold fitsL
      rw [cut_split pat, h1]
      rfl
theorem fits_one (h1 : cutK pat = (part, rest, more)) (h2 : cutK p = (name, behind, deeper)) (h : runS part = false) : fitsL pat p = (spelledL part name && (if deeper = true then (if more = true then fitsL rest behind else false) else runsK more rest)) := by
  rw [fits_lists h1 h2, laid_consS h]
  congr 1
  cases deeper
  · simp only [Bool.false_eq_true, if_false]
    rw [laid_end_all]
    cases more <;> rfl
  · simp only [if_true]
    cases more
    · simp only [Bool.false_eq_true, if_false]
      rw [laid_nilS]
      have := splitL_ne 47 behind
      cases hs : splitL 47 behind with
      | nil => exact absurd hs this
      | cons _ _ => rfl
    · simp only [if_true]; rfl
end

/-- How the statement spells a directory's list. -/
def labK (rest : Str) : Str := if (cutK rest).2.2 = true then (cutK rest).1 ++ [47] else (cutK rest).1
theorem lab_eq (rest : Str) : labK rest = labelL rest := by
  unfold labK labelL
  rw [cut_split]
  cases h : (cutK rest).2.2
  · simp
  · have := splitL_ne 47 (cutK rest).2.1
    have h3 : 0 < (splitL 47 (cutK rest).2.1).length := List.length_pos_iff.2 this
    simp only [if_true, List.length_cons, List.headD_cons]
    rw [if_pos (by omega)]
def namesK (st : Str × Str) (rest : Str) : Str × Str := if rest = [] then st else if labK rest = st.2 then st else (st.1 ++ (if st.2 = [] then [] else [32]) ++ labK rest, labK rest)
theorem names_list (p : Str) : ∀ (l : List Fl) (i : Nat) (st : Str × Str), (st.2 = [] ↔ i = 0) → (∀ f ∈ l, belowL f.1 p ≠ [] → labK (belowL f.1 p) ≠ []) → (l.map fun f => belowL f.1 p).foldl namesK st = listF i st (inL l p)
  | [], _, _, _, _ => rfl
  | f :: l, i, st, hi, hl => by
    have hl' : ∀ g ∈ l, belowL g.1 p ≠ [] → labK (belowL g.1 p) ≠ [] := fun g hg => hl g (List.mem_cons_of_mem _ hg)
    rw [List.map_cons, List.foldl_cons, inL, List.flatMap_cons]
    by_cases hb : belowL f.1 p = []
    · rw [hb]
      simp only [List.isEmpty_nil, if_true, List.nil_append]
      rw [show namesK st [] = st from if_pos rfl]
      exact names_list p l i st hi hl'
    · have he : (belowL f.1 p).isEmpty = false := by
        cases h : belowL f.1 p with
        | nil => exact absurd h hb
        | cons _ _ => rfl
      have hn := hl f (List.mem_cons_self ..) hb
      rw [he]
      simp only [Bool.false_eq_true, if_false, List.cons_append, List.nil_append]
      rw [listF]
      have e : namesK st (belowL f.1 p) = listStep i st (belowL f.1 p, f.2) := by
        unfold namesK listStep
        rw [if_neg hb]
        simp only [← lab_eq, beq_iff_eq]
        by_cases h1 : labK (belowL f.1 p) = st.2
        · rw [if_pos h1, if_pos h1]
        · rw [if_neg h1, if_neg h1, sepI]
          by_cases h2 : i = 0
          · rw [if_pos h2, if_pos (hi.2 h2)]; simp
          · rw [if_neg h2, if_neg (fun h => h2 (hi.1 h))]; simp
      rw [← e]
      refine names_list p l (i + 1) _ ?_ hl'
      constructor
      · intro h
        exfalso
        unfold namesK at h
        rw [if_neg hb] at h
        by_cases h1 : labK (belowL f.1 p) = st.2
        · rw [if_pos h1] at h; exact hn (h1.trans h)
        · rw [if_neg h1] at h; exact hn h
      · intro h; omega

end Go.Proofs.YtdcbgfhkfmohiaaGreatDoor

/- Found: what Ask tells of a path, in the statement's words. No program. -/
namespace Go.Proofs.YtdcbgfhkfmohiaaGreatDoor
open Go.RowKit

theorem get_value (l : List Fl) (x : Str) : 0 ≤ getI l x ↔ (valueK l x).2 = true := by
  unfold getI getL valueK
  cases h : l.find? (fun f => f.1 == x) with
  | none =>
    have : l.findIdx? (fun f => f.1 == x) = none := by
      rw [List.findIdx?_eq_none_iff]
      rw [List.find?_eq_none] at h
      intro f hf
      simpa using h f hf
    rw [this]; simp
  | some y =>
    cases h2 : l.findIdx? (fun f => f.1 == x) with
    | none =>
      rw [List.findIdx?_eq_none_iff] at h2
      have h3 := List.mem_of_find?_eq_some h
      have h4 := List.find?_some h
      have := h2 y h3
      rw [this] at h4
      simp at h4
    | some k => simp
theorem file_alone : ∀ (P R : List Str) (t : Tree) (d e : Str), fileAt t P = some d → fileAt t (P ++ R) = some e → R = []
  | [], R, .file d', d, e, _, h2 => by
    rw [List.nil_append, fileAt_file] at h2
    by_cases h : R = []
    · exact h
    · rw [if_neg h] at h2; simp at h2
  | [], R, .dir es, d, e, h1, _ => by rw [fileAt_root] at h1; simp at h1
  | x :: P, R, .file d', d, e, h1, _ => by rw [fileAt_file, if_neg (by simp)] at h1; simp at h1
  | x :: P, R, .dir es, d, e, h1, h2 => by
    rw [List.cons_append] at h2
    rw [fileAt_dir] at h1 h2
    cases h : findE es x with
    | none => rw [h] at h1; simp at h1
    | some t => rw [h] at h1 h2; exact file_alone P R t d e h1 h2
theorem in_mem {l : List Fl} {p : Str} (h : (inL l p).isEmpty = false) : ∃ f ∈ l, belowL f.1 p ≠ [] := by
  cases hi : inL l p with
  | nil => rw [hi] at h; simp at h
  | cons g r =>
    have hg : g ∈ inL l p := by rw [hi]; exact List.mem_cons_self ..
    unfold inL at hg
    rw [List.mem_flatMap] at hg
    obtain ⟨f, hf, hg⟩ := hg
    refine ⟨f, hf, fun e => ?_⟩
    rw [e] at hg
    simp at hg
/-- A path is not both a file and a directory. -/
theorem not_both {es : Ents} (hw : WFE es) {p : Str} (hp : isPathL p = true) (h1 : (valueK (toF (filesE es)) p).2 = true) : (inL (toF (filesE es)) p).isEmpty = true := by
  cases hi : (inL (toF (filesE es)) p).isEmpty
  · exfalso
    obtain ⟨f, hf, hb⟩ := in_mem hi
    unfold toF at hf
    rw [List.mem_map] at hf
    obtain ⟨g, hg, rfl⟩ := hf
    have hk := path_ok hp
    have hgN := (valid_files hw).1 g hg
    rw [← hk.2.1] at h1 hb
    rw [value_tree hw hk.1] at h1
    rcases below_names hgN hk.1 with ⟨e, _⟩ | ⟨R, hR, e, _⟩
    · exact hb e
    · cases hd : fileAt (.dir es) (splitL 47 p) with
      | none => rw [hd] at h1; simp at h1
      | some d =>
        have h2 : fileAt (.dir es) (splitL 47 p ++ R) = some g.2 := by rw [← e]; exact (mem_root hw _ _).1 hg
        exact hR (file_alone _ _ _ _ _ hd h2)
  · rfl
theorem kind_eq {es : Ents} (hw : WFE es) {p : Str} (hp : isPathL p = true) : kindL (toF (filesE es)) p = if (inL (toF (filesE es)) p).isEmpty then (if (valueK (toF (filesE es)) p).2 = true then fileT else noT) else dirT := by
  have hr := path_ne_root hp
  unfold kindL
  cases hv : (valueK (toF (filesE es)) p).2
  · rw [if_neg (by rw [get_value, hv]; simp), isDirL, hr]
    cases hi : (inL (toF (filesE es)) p).isEmpty <;> simp
  · rw [if_pos (by rw [get_value, hv]), not_both hw hp hv]; simp
theorem list_eq {es : Ents} (hw : WFE es) {p : Str} (hp : isPathL p = true) : listL (toF (filesE es)) p = if (inL (toF (filesE es)) p).isEmpty then noT else (((toF (filesE es)).map fun f => belowL f.1 p).foldl namesK ([58], [])).1 := by
  have hr := path_ne_root hp
  unfold listL isDirL
  rw [hr]
  have hn : ∀ f ∈ toF (filesE es), belowL f.1 p ≠ [] → labK (belowL f.1 p) ≠ [] := by
    intro f hf hb
    unfold toF at hf
    rw [List.mem_map] at hf
    obtain ⟨g, hg, rfl⟩ := hf
    have hgN := (valid_files hw).1 g hg
    have hk := path_ok hp
    rw [← hk.2.1] at hb ⊢
    rcases below_names hgN hk.1 with ⟨e, _⟩ | ⟨R, hR, e, e2⟩
    · exact absurd e hb
    · rw [e2] at hb ⊢
      have hRN : OkN R := ⟨hR, fun x hx => hgN.2 x (by rw [e]; exact List.mem_append_right _ hx)⟩
      have hs : splitL 47 (joinP R) = R := hRN.split
      have hm : (cutK (joinP R)).1 ∈ splitL 47 (joinP R) := by rw [cut_split]; exact List.mem_cons_self ..
      rw [hs] at hm
      have hne : (cutK (joinP R)).1 ≠ [] := (name_free (hRN.2 _ hm)).2
      unfold labK
      split
      · simp
      · exact hne
  rw [names_list p _ 0 ([58], []) (by simp) hn, listedL]
  cases hi : (inL (toF (filesE es)) p).isEmpty <;> simp
theorem first_eq (l : List Fl) {p : Str} (hp : isPathL p = true) : firstL l [97] [p, [47], [98]] = if (valueK l (p ++ [47, 97])).2 = true then p ++ [47, 97] else if (valueK l [97]).2 = true then [97] else if (valueK l [98, 47, 97]).2 = true then [98, 47, 97] else noT := by
  have hr := path_ne_root hp
  simp only [firstL, inDir, hr, get_value]
  rfl

end Go.Proofs.YtdcbgfhkfmohiaaGreatDoor

/- Found: the statement's own matcher: spells. -/
namespace Go.Proofs.YtdcbgfhkfmohiaaGreatDoor
open Go.RowKit
attribute [local go_sem] Oper.semAt_some

set_option maxHeartbeats 8000000 in
set_option maxRecDepth 50000 in
theorem kSpells_any (part : Str) : ∀ (name : Str) (w : World), part.length ≤ 1000 → name.length ≤ 1000 → Calls Tryz.prog 54 #[SV part, SV name] w fun e w' => e = .returned (.bool (spelledL part name)) ∧ ∃ m, w' = w.drewN m := by
  induction part with
  | nil =>
    intro name w _ hn
    unfold spelledL
    have R := Hid.mk' (laid_nilB name)
    cases name with
    | nil =>
      go_enter Tryz.func54, Tryz.ntmps54
      go_wp2
      go_ret
      exact ⟨by rw [R.out]; rfl, 0, rfl⟩
    | cons c name =>
      go_enter Tryz.func54, Tryz.ntmps54
      go_wp2
      go_ret
      exact ⟨by rw [R.out]; rfl, 0, rfl⟩
  | cons p part ih =>
    intro name w hp hn
    simp only [List.length_cons] at hp
    have hX := extract_list
    have hG := get_list
    have hE : ∀ args W, (callFunc 54 args).run Tryz.prog W = .ok (.enter 54 args) W := enters_of Tryz.func54 (by kernel_rfl) rfl
    unfold spelledL
    cases hs : starB p
    · have hs' : ((p.toNat : Int) == 42) = false := by rw [← star_int]; exact hs
      cases name with
      | nil =>
        have R := Hid.mk' (laid_endB (ps := part) hs)
        clear ih
        go_enter Tryz.func54, Tryz.ntmps54
        go_wp2_with fail
        go_quiet (fail)
        go_wp2
        go_ret
        exact ⟨by rw [R.out]; rfl, _, rfl⟩
      | cons c name =>
        simp only [List.length_cons] at hn
        have R := Hid.mk' (laid_consB (ps := part) (xs := name) (x := c) hs)
        have CI : Hid (∀ W, Calls Tryz.prog 54 #[SV part, SV name] W fun e w' => e = .returned (.bool (laidL starB takesB part name)) ∧ ∃ m, w' = W.drewN m) := fun W => ih name W (by omega) (by omega)
        have hp1 : (1 : Int) ≤ ((part.length : Int) + 1) := by omega
        have hn1 : (1 : Int) ≤ ((name.length : Int) + 1) := by omega
        clear ih
        generalize laidL starB takesB part name = b at *
        by_cases h63 : p = 63
        · subst h63
          have ht : takesB 63 c = true := by unfold takesB; simp
          rw [ht, Bool.true_and] at R
          go_enter Tryz.func54, Tryz.ntmps54
          go_wp2_with fail
          go_quiet (fail)
          obtain ⟨w2, hw2⟩ : ∃ w2, w2 = w.drewN nq := ⟨_, rfl⟩
          have HW2 := Hid.mk' hw2
          rw [← hw2]
          clear hw2
          go_wp2_with fail
          go_quiet (first | (go_at_call 54; exact Calls.quiet_of (CI.out _)))
          go_wp2
          go_ret
          exact ⟨by rw [R.out]; rfl, _, by rw [HW2.out]; exact drewN_more _ _ _⟩
        · have h63i : ((p.toNat : Int) == 63) = false := by
            rw [beq_eq_false_iff_ne]
            intro e
            exact h63 (UInt8.toNat_inj.1 (by show p.toNat = 63; omega))
          have h63n : ((p.toNat : Int) != 63) = true := by rw [bne, h63i]; rfl
          by_cases hpc : p = c
          · have hpc' := hpc.symm
            subst hpc'
            have ht : takesB c c = true := by unfold takesB; simp
            rw [ht, Bool.true_and] at R
            go_enter Tryz.func54, Tryz.ntmps54
            go_wp2_with fail
            go_quiet (fail)
            obtain ⟨w2, hw2⟩ : ∃ w2, w2 = w.drewN nq := ⟨_, rfl⟩
            have HW2 := Hid.mk' hw2
            rw [← hw2]
            clear hw2
            go_wp2_with fail
            go_quiet (first | (go_at_call 54; exact Calls.quiet_of (CI.out _)))
            go_wp2
            go_ret
            exact ⟨by rw [R.out]; rfl, _, by rw [HW2.out]; exact drewN_more _ _ _⟩
          · have hpci : ((p.toNat : Int) == (c.toNat : Int)) = false := by
              rw [beq_eq_false_iff_ne]
              intro e
              exact hpc (UInt8.toNat_inj.1 (by omega))
            have hpcn : ((p.toNat : Int) != (c.toNat : Int)) = true := by rw [bne, hpci]; rfl
            have ht : takesB p c = false := by unfold takesB; simp [h63, hpc]
            rw [ht, Bool.false_and] at R
            clear CI
            go_enter Tryz.func54, Tryz.ntmps54
            go_wp2_with fail
            go_quiet (fail)
            go_wp2
            go_ret
            exact ⟨by rw [R.out]; rfl, _, rfl⟩
    · have hs' : ((p.toNat : Int) == 42) = true := by rw [← star_int]; exact hs
      have HIT : Hid (∀ k, k ≤ name.length → laidL starB takesB part (name.drop k) = true → laidL starB takesB (p :: part) name = true) := fun k hk h => laid_hitB hs hk h
      have MISS : Hid ((∀ k, k ≤ name.length → laidL starB takesB part (name.drop k) = false) → laidL starB takesB (p :: part) name = false) := fun h => laid_missB hs h
      have CI : Hid (∀ k (W : World), (∃ n, W = w.drewN n) → k ≤ name.length → Calls Tryz.prog 54 #[SV part, SV (name.drop k)] W fun e w' => e = .returned (.bool (laidL starB takesB part (name.drop k))) ∧ ∃ m, w' = W.drewN m) := fun k W _ hk => ih (name.drop k) W (by omega) (by simp; omega)
      have hp1 : (1 : Int) ≤ ((part.length : Int) + 1) := by omega
      clear ih
      go_enter Tryz.func54, Tryz.ntmps54
      go_wp2
      go_loopw [5] (fun i wr => ∃ k n : Nat, k ≤ name.length + 1 ∧ i = .int .i64 k ∧ wr = w.drewN n ∧ ∀ j, j < k → j ≤ name.length → laidL starB takesB part (name.drop j) = false) (fun i _ => name.length + 1 - (intOf i).toNat)
      case atStart => exact ⟨0, 0, Nat.zero_le _, rfl, rfl, fun j h => by omega⟩
      case round =>
        obtain ⟨k, n, hk, rfl, hwr, hall⟩ := hrel
        have HWR : Hid _ := hwr
        clear hwr
        by_cases hlt : k ≤ name.length
        · have hki : (k : Int) ≤ (name.length : Int) := by omega
          have CK : Hid _ := fun m => CI.out k (wr.drewN m) ⟨n + m, by rw [HWR.out]; exact drewN_more w n m⟩ hlt
          have HA : Hid _ := hall
          have HH : Hid _ := HIT.out k hlt
          clear hall HIT CI
          obtain ⟨nk, hnk⟩ : ∃ nk, name.drop k = nk := ⟨_, rfl⟩
          have htk : List.take (name.length - k) (List.drop k name) = nk := by rw [hnk, List.take_of_length_le (by rw [← hnk]; simp)]
          have HNK := Hid.mk' hnk
          rw [hnk] at CK HH
          clear hnk
          cases hb : laidL starB takesB part nk
          · rw [hb] at CK
            have HBK := Hid.mk' hb
            clear hb HH
            go_wp2_with fail
            go_quiet (first | (go_at_call 54; exact Calls.quiet_of (CK.out _)))
            go_wp2
            go_roundw
            case rel => exact ⟨k + 1, n + nq, by omega, by go_num, by rw [HWR.out]; exact drewN_more w n nq, fun j hj hjl => by
              by_cases e : j = k
              · subst e; rw [HNK.out]; exact HBK.out
              · exact HA.out j (by omega) hjl⟩
            case measure => simp [intOf]; omega
          · have R : Hid _ := HH.out hb
            rw [hb] at CK
            clear hb
            go_wp2_with fail
            go_quiet (first | (go_at_call 54; exact Calls.quiet_of (CK.out _)))
            go_wp2
            go_ret
            exact ⟨by rw [R.out]; rfl, n + nq, by rw [HWR.out]; exact drewN_more w n nq⟩
        · have R : Hid _ := MISS.out (fun j hj => hall j (by omega) hj)
          have hki : ¬ (k : Int) ≤ (name.length : Int) := by omega
          clear hall HIT MISS CI
          go_wp2
          go_ret
          exact ⟨by rw [R.out]; rfl, n, HWR.out⟩

end Go.Proofs.YtdcbgfhkfmohiaaGreatDoor
