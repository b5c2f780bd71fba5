/- Users counted; what the keeping and the dropping of a node do to a store. -/
import Derived.Test.YtdcbgfhkfmohiaaGreatDoorEd10
namespace Go.Proofs.YtdcbgfhkfmohiaaGreatDoor
open Go.RowKit

open Classical in
noncomputable def upd (f : Tree → Nat) (t : Tree) (v : Nat) : Tree → Nat := fun s => if s = t then v else f s
theorem upd_same (f : Tree → Nat) (t : Tree) (v : Nat) : upd f t v t = v := by unfold upd; exact if_pos rfl
theorem upd_other {f : Tree → Nat} {t s : Tree} {v : Nat} (h : s ≠ t) : upd f t v s = f s := by unfold upd; exact if_neg h
theorem valT_upd {ad : Tree → Nat} {t s : Tree} {v : Nat} (h : s ≠ t) : valT (upd ad t v) s = valT ad s := by
  cases s <;> simp only [valT] <;> rw [upd_other h]
theorem valsE_upd {ad : Tree → Nat} {t : Tree} {v : Nat} {es : Ents} (h : ∀ e ∈ es, e.2 ≠ t) : valsE (upd ad t v) es = valsE ad es := by
  unfold valsE
  apply List.map_congr_left
  intro e he
  rw [valT_upd (h e he)]
theorem valsE_congr {ad ad' : Tree → Nat} {es : Ents} (h : ∀ e ∈ es, ad' e.2 = ad e.2) : valsE ad' es = valsE ad es := by
  unfold valsE
  apply List.map_congr_left
  intro e he
  have := h e he
  obtain ⟨x, t⟩ := e
  cases t <;> simp only [valT] <;> rw [this]

/-- What a node's block holds. -/
def NodeO (ad : Tree → Nat) (t : Tree) (u : Int) : Obj := match t with
  | .file d => .cells #[.int .i64 u, SV d] 135 (0, 0)
  | .dir es => .cells (Value.int .i64 u :: listCells (valsE ad es)).toArray 149 (0, 0)

section
variable {w w' : World} {B : Bank}

theorem BankAt.nodeO (h : BankAt w B) {t : Tree} (ht : B.has t) : w.heap[B.ad t]? = some (NodeO B.ad t (B.us t)) := by
  cases t with
  | file d => exact h.files d ht
  | dir es => exact (h.dirs es ht).2
theorem BankAt.far (h : BankAt w B) {t : Tree} (ht : B.has t) : B.ad t ≠ B.sb ∧ B.ad t ≠ B.rs ∧ B.ad t ≠ B.rd ∧ B.ad t ≠ B.rf := by
  have h0 := h.nodeO ht
  obtain ⟨m1, c1, h1, _⟩ := h.snaps
  obtain ⟨m2, c2, h2, _⟩ := h.dmap
  obtain ⟨m3, c3, h3, _⟩ := h.fmap
  have h4 := h.store
  refine ⟨?_, ?_, ?_, ?_⟩ <;> intro e <;> rw [e] at h0
  · rw [h4] at h0; cases t <;> simp [NodeO] at h0
  · rw [h1] at h0; cases t <;> simp [NodeO] at h0
  · rw [h2] at h0; cases t <;> simp [NodeO] at h0
  · rw [h3] at h0; cases t <;> simp [NodeO] at h0
theorem BankAt.maps (h : BankAt w B) : B.sb ≠ B.rs ∧ B.sb ≠ B.rd ∧ B.sb ≠ B.rf := by
  obtain ⟨m1, c1, h1, _⟩ := h.snaps
  obtain ⟨m2, c2, h2, _⟩ := h.dmap
  obtain ⟨m3, c3, h3, _⟩ := h.fmap
  have h4 := h.store
  refine ⟨?_, ?_, ?_⟩ <;> intro e <;> rw [e] at h4
  · rw [h1] at h4; simp at h4
  · rw [h2] at h4; simp at h4
  · rw [h3] at h4; simp at h4

/-- One node's users have turned. -/
theorem BankAt.setUsers (h : BankAt w B) {t : Tree} (ht : B.has t) (u : Nat) (hs : Set1 w w' (B.ad t) (NodeO B.ad t u)) : BankAt w' { B with us := upd B.us t u } := by
  obtain ⟨f1, f2, f3, f4⟩ := h.far ht
  obtain ⟨m1, c1, h1, k1⟩ := h.snaps
  obtain ⟨m2, c2, h2, k2⟩ := h.dmap
  obtain ⟨m3, c3, h3, k3⟩ := h.fmap
  have key : ∀ s, B.has s → w'.heap[B.ad s]? = some (NodeO B.ad s (upd B.us t u s)) := by
    intro s hs2
    by_cases e : s = t
    · subst e; rw [upd_same]; exact hs.here
    · rw [upd_other e, hs.other _ (fun he => e (h.same hs2 ht he))]; exact h.nodeO hs2
  exact ⟨(hs.other _ (Ne.symm f1)).trans h.store, ⟨m1, c1, (hs.other _ (Ne.symm f2)).trans h1, k1⟩, ⟨m2, c2, (hs.other _ (Ne.symm f3)).trans h2, k2⟩, ⟨m3, c3, (hs.other _ (Ne.symm f4)).trans h3, k3⟩, h.apart,
    fun d hd => key (.file d) hd, fun es he => ⟨(h.dirs es he).1, key (.dir es) he⟩, h.closed, h.roots, h.ndD, h.ndF, h.ndS⟩

/-- A file's data is registered at its own block. -/
theorem BankAt.addFile (h : BankAt w B) {d : Str} {b : Nat} (hn : d ∉ B.fs) (hf : FileAt w b 0 d) {m : Array MapEntry} {c : Nat} (hm : w.heap[B.rf]? = some (.map m c)) (hh : Holds m (fun d => SV d) (fun d => ptrV (B.ad (.file d))) B.fs)
    (hs : Set1 w w' B.rf (.map (m.push { key := SV d, val := ptrV b, born := c }) (c + 1))) : BankAt w' { B with fs := B.fs ++ [d], ad := upd B.ad (.file d) b, us := upd B.us (.file d) 0 } := by
  have hne : ∀ s, B.has s → s ≠ .file d := fun s hs e => hn (by subst e; exact hs)
  have hvs : ∀ es ∈ B.ds, valsE (upd B.ad (.file d) b) es = valsE B.ad es := fun es he => valsE_upd fun e hm => hne _ (h.closed es he e hm)
  have hbf : b ≠ B.rf := by intro e; subst e; unfold FileAt at hf; rw [hm] at hf; simp at hf
  obtain ⟨m1, c1, h1, k1⟩ := h.snaps
  obtain ⟨m2, c2, h2, k2⟩ := h.dmap
  have hmp := h.maps
  refine ⟨(hs.other _ hmp.2.2).trans h.store, ⟨m1, c1, (hs.other _ h.apart.2.1).trans h1, ?_⟩, ⟨m2, c2, (hs.other _ h.apart.2.2).trans h2, ?_⟩, ⟨_, _, hs.here, ?_⟩, h.apart, ?_, ?_, ?_, h.roots, h.ndD, ?_, h.ndS⟩
  · unfold Holds at *
    rw [k1]; apply List.map_congr_left; intro s _
    show (_, ptrV _) = (_, ptrV (upd B.ad (.file d) b (.dir s.2)))
    rw [upd_other (by simp)]
  · unfold Holds at *
    rw [k2]; apply List.map_congr_left; intro s hs2
    show (_, ptrV _) = (Value.agg (listCells (valsE (upd B.ad (.file d) b) s)).toArray, ptrV (upd B.ad (.file d) b (.dir s)))
    rw [upd_other (by simp), hvs s hs2]
  · unfold Holds at *
    simp only [Array.toList_push, List.map_append, hh, List.map_cons, List.map_nil]
    congr 1
    · apply List.map_congr_left; intro s hs2
      show (_, ptrV _) = (_, ptrV (upd B.ad (.file d) b (.file s)))
      rw [upd_other (fun e => hn (by simp at e; rw [← e]; exact hs2))]
    · show [(_, ptrV b)] = [(_, ptrV (upd B.ad (.file d) b (.file d)))]
      rw [upd_same]
  · intro x hx
    show FileAt w' (upd B.ad (.file d) b (.file x)) (upd B.us (.file d) 0 (.file x)) x
    by_cases e : x = d
    · subst e; rw [upd_same, upd_same]; exact (hs.other _ hbf).trans hf
    · have hx' : x ∈ B.fs := by simp at hx; exact hx.resolve_right e
      rw [upd_other (by simpa using e), upd_other (by simpa using e)]
      exact (hs.other _ (h.far (t := .file x) hx').2.2.2).trans (h.files x hx')
  · intro es he
    show DirAt w' (upd B.ad (.file d) b (.dir es)) (upd B.us (.file d) 0 (.dir es)) (valsE (upd B.ad (.file d) b) es)
    rw [upd_other (by simp), upd_other (by simp), hvs es he]
    exact ⟨(h.dirs es he).1, (hs.other _ (h.far (t := .dir es) he).2.2.2).trans (h.dirs es he).2⟩
  · intro es he e hm
    have := h.closed es he e hm
    generalize e.2 = t at *
    cases t with
    | file x => exact List.mem_append_left _ this
    | dir x => exact this
  · rw [List.nodup_append]
    exact ⟨h.ndF, by simp, fun a ha b hb e => hn (by simp at hb; rw [← hb, ← e]; exact ha)⟩

/-- A directory is registered at a new block. -/
theorem BankAt.addDir (h : BankAt w B) {es : Ents} {b : Nat} (hn : es ∉ B.ds) (hc : ∀ e ∈ es, B.has e.2) (hd : DirAt w b 0 (valsE B.ad es)) {m : Array MapEntry} {c : Nat} (hm : w.heap[B.rd]? = some (.map m c)) (hh : Holds m (fun d => .agg (listCells (valsE B.ad d)).toArray) (fun d => ptrV (B.ad (.dir d))) B.ds)
    (hs : Set1 w w' B.rd (.map (m.push { key := .agg (listCells (valsE B.ad es)).toArray, val := ptrV b, born := c }) (c + 1))) : BankAt w' { B with ds := B.ds ++ [es], ad := upd B.ad (.dir es) b, us := upd B.us (.dir es) 0 } := by
  have hne : ∀ s, B.has s → s ≠ .dir es := fun s hs e => hn (by subst e; exact hs)
  have hvs : ∀ x ∈ B.ds, valsE (upd B.ad (.dir es) b) x = valsE B.ad x := fun x he => valsE_upd fun e hm => hne _ (h.closed x he e hm)
  have hve : valsE (upd B.ad (.dir es) b) es = valsE B.ad es := valsE_upd fun e hm => hne _ (hc e hm)
  have hbf : b ≠ B.rd := by intro e; subst e; have := hd.2; rw [hm] at this; simp at this
  obtain ⟨m1, c1, h1, k1⟩ := h.snaps
  obtain ⟨m3, c3, h3, k3⟩ := h.fmap
  have hmp := h.maps
  refine ⟨(hs.other _ hmp.2.1).trans h.store, ⟨m1, c1, (hs.other _ h.apart.1).trans h1, ?_⟩, ⟨_, _, hs.here, ?_⟩, ⟨m3, c3, (hs.other _ (Ne.symm h.apart.2.2)).trans h3, ?_⟩, h.apart, ?_, ?_, ?_, fun s hs => List.mem_append_left _ (h.roots s hs), ?_, h.ndF, h.ndS⟩
  · unfold Holds at *
    rw [k1]; apply List.map_congr_left; intro s hs2
    show (_, ptrV _) = (_, ptrV (upd B.ad (.dir es) b (.dir s.2)))
    rw [upd_other (hne (.dir s.2) (h.roots s hs2))]
  · unfold Holds at *
    simp only [Array.toList_push, List.map_append, hh, List.map_cons, List.map_nil]
    congr 1
    · apply List.map_congr_left; intro s hs2
      show (_, ptrV _) = (Value.agg (listCells (valsE (upd B.ad (.dir es) b) s)).toArray, ptrV (upd B.ad (.dir es) b (.dir s)))
      rw [upd_other (hne (.dir s) hs2), hvs s hs2]
    · show [(_, ptrV b)] = [(Value.agg (listCells (valsE (upd B.ad (.dir es) b) es)).toArray, ptrV (upd B.ad (.dir es) b (.dir es)))]
      rw [upd_same, hve]
  · unfold Holds at *
    rw [k3]; apply List.map_congr_left; intro s _
    show (_, ptrV _) = (_, ptrV (upd B.ad (.dir es) b (.file s)))
    rw [upd_other (by simp)]
  · intro x hx
    show FileAt w' (upd B.ad (.dir es) b (.file x)) (upd B.us (.dir es) 0 (.file x)) x
    rw [upd_other (by simp), upd_other (by simp)]
    exact (hs.other _ (h.far (t := .file x) hx).2.2.1).trans (h.files x hx)
  · intro x hx
    show DirAt w' (upd B.ad (.dir es) b (.dir x)) (upd B.us (.dir es) 0 (.dir x)) (valsE (upd B.ad (.dir es) b) x)
    by_cases e : x = es
    · subst e; rw [upd_same, upd_same, hve]; exact ⟨hd.1, (hs.other _ hbf).trans hd.2⟩
    · have hx' : x ∈ B.ds := by simp at hx; exact hx.resolve_right e
      rw [upd_other (by simpa using e), upd_other (by simpa using e), hvs x hx']
      exact ⟨(h.dirs x hx').1, (hs.other _ (h.far (t := .dir x) hx').2.2.1).trans (h.dirs x hx').2⟩
  · intro x hx e hm
    have hb : B.has e.2 := by
      simp at hx; rcases hx with hx | rfl
      · exact h.closed x hx e hm
      · exact hc e hm
    generalize e.2 = t at *
    cases t with
    | file y => exact hb
    | dir y => exact List.mem_append_left _ hb
  · rw [List.nodup_append]
    exact ⟨h.ndD, by simp, fun a ha b hb e => hn (by simp at hb; rw [← hb, ← e]; exact ha)⟩

theorem eraseIdx_mem {α : Type} {l : List α} (hnd : l.Nodup) {j : Nat} {x : α} (hj : l[j]? = some x) (y : α) : y ∈ l.eraseIdx j ↔ y ∈ l ∧ y ≠ x := by
  induction l generalizing j with
  | nil => simp at hj
  | cons a l ih =>
    rw [List.nodup_cons] at hnd
    cases j with
    | zero =>
      simp at hj; subst hj
      simp only [List.eraseIdx_zero, List.tail_cons, List.mem_cons]
      constructor
      · intro h; exact ⟨.inr h, fun e => hnd.1 (e ▸ h)⟩
      · rintro ⟨h | h, h2⟩
        · exact absurd h h2
        · exact h
    | succ j =>
      simp only [List.getElem?_cons_succ] at hj
      simp only [List.eraseIdx_cons_succ, List.mem_cons, ih hnd.2 hj]
      constructor
      · rintro (h | ⟨h, h2⟩)
        · subst h; exact ⟨.inl rfl, fun e => hnd.1 (e ▸ List.mem_of_getElem? hj)⟩
        · exact ⟨.inr h, h2⟩
      · rintro ⟨h | h, h2⟩
        · exact .inl h
        · exact .inr ⟨h, h2⟩
theorem eraseIdx_nodup {α : Type} {l : List α} (hnd : l.Nodup) (j : Nat) : (l.eraseIdx j).Nodup := hnd.sublist (List.eraseIdx_sublist _ _)

/-- A file that no directory needs is taken out of the register. -/
theorem BankAt.delFile (h : BankAt w B) {d : Str} {j : Nat} (hj : B.fs[j]? = some d) (hfree : ∀ es ∈ B.ds, ∀ e ∈ es, e.2 ≠ .file d) {m : Array MapEntry} {c : Nat} (hh : Holds m (fun d => SV d) (fun d => ptrV (B.ad (.file d))) B.fs)
    (hs : Set1 w w' B.rf (.map (m.eraseIdxIfInBounds j) c)) : BankAt w' { B with fs := B.fs.eraseIdx j } := by
  obtain ⟨m1, c1, h1, k1⟩ := h.snaps
  obtain ⟨m2, c2, h2, k2⟩ := h.dmap
  have hmp := h.maps
  have hmem := eraseIdx_mem h.ndF hj
  refine ⟨(hs.other _ hmp.2.2).trans h.store, ⟨m1, c1, (hs.other _ h.apart.2.1).trans h1, k1⟩, ⟨m2, c2, (hs.other _ h.apart.2.2).trans h2, k2⟩, ⟨_, _, hs.here, hh.erase j⟩, h.apart, ?_, ?_, ?_, h.roots, h.ndD, eraseIdx_nodup h.ndF j, h.ndS⟩
  · intro x hx
    have hx' := ((hmem x).1 hx).1
    exact (hs.other _ (h.far (t := .file x) hx').2.2.2).trans (h.files x hx')
  · intro x hx
    exact ⟨(h.dirs x hx).1, (hs.other _ (h.far (t := .dir x) hx).2.2.2).trans (h.dirs x hx).2⟩
  · intro x hx e hm
    have h5 := h.closed x hx e hm
    have h6 := hfree x hx e hm
    generalize e.2 = t at *
    cases t with
    | file y => exact (hmem y).2 ⟨h5, fun e => h6 (by rw [e])⟩
    | dir y => exact h5

/-- A directory that no directory and no snapshot needs is taken out of the register. -/
theorem BankAt.delDir (h : BankAt w B) {es : Ents} {j : Nat} (hj : B.ds[j]? = some es) (hfree : ∀ x ∈ B.ds, ∀ e ∈ x, e.2 ≠ .dir es) (hroot : ∀ s ∈ B.ss, s.2 ≠ es) {m : Array MapEntry} {c : Nat} (hh : Holds m (fun d => .agg (listCells (valsE B.ad d)).toArray) (fun d => ptrV (B.ad (.dir d))) B.ds)
    (hs : Set1 w w' B.rd (.map (m.eraseIdxIfInBounds j) c)) : BankAt w' { B with ds := B.ds.eraseIdx j } := by
  obtain ⟨m1, c1, h1, k1⟩ := h.snaps
  obtain ⟨m3, c3, h3, k3⟩ := h.fmap
  have hmp := h.maps
  have hmem := eraseIdx_mem h.ndD hj
  refine ⟨(hs.other _ hmp.2.1).trans h.store, ⟨m1, c1, (hs.other _ h.apart.1).trans h1, k1⟩, ⟨_, _, hs.here, hh.erase j⟩, ⟨m3, c3, (hs.other _ (Ne.symm h.apart.2.2)).trans h3, k3⟩, h.apart, ?_, ?_, ?_, ?_, eraseIdx_nodup h.ndD j, h.ndF, h.ndS⟩
  · intro x hx
    exact (hs.other _ (h.far (t := .file x) hx).2.2.1).trans (h.files x hx)
  · intro x hx
    have hx' := ((hmem x).1 hx).1
    exact ⟨(h.dirs x hx').1, (hs.other _ (h.far (t := .dir x) hx').2.2.1).trans (h.dirs x hx').2⟩
  · intro x hx e hm
    have hx' := ((hmem x).1 hx).1
    have h5 := h.closed x hx' e hm
    have h6 := hfree x hx' e hm
    generalize e.2 = t at *
    cases t with
    | file y => exact h5
    | dir y => exact (hmem y).2 ⟨h5, fun e => h6 (by rw [e])⟩
  · intro s hs2
    exact (hmem _).2 ⟨h.roots s hs2, hroot s hs2⟩
end

end Go.Proofs.YtdcbgfhkfmohiaaGreatDoor

/- Users counted: who needs a node; how many cells there are. -/
namespace Go.Proofs.YtdcbgfhkfmohiaaGreatDoor
open Go.RowKit

open Classical in
/-- How often a tree stands in a directory. -/
noncomputable def cntE (t : Tree) (es : Ents) : Nat := es.countP fun e => decide (e.2 = t)
noncomputable def occD (ds : List Ents) (t : Tree) : Nat := (ds.map (cntE t)).sum
open Classical in
noncomputable def occS (ss : List (Nat × Ents)) (t : Tree) : Nat := ss.countP fun s => decide (Tree.dir s.2 = t)
open Classical in
noncomputable def one (t s : Tree) : Nat := if s = t then 1 else 0
theorem one_same (t : Tree) : one t t = 1 := by unfold one; exact if_pos rfl
theorem one_other {t s : Tree} (h : s ≠ t) : one t s = 0 := by unfold one; exact if_neg h

/-- Users are counted: who needs a node, and x besides. -/
def Exact (B : Bank) (x : Tree → Nat) : Prop := ∀ t, B.has t → B.us t = occD B.ds t + occS B.ss t + x t
def Pos (B : Bank) : Prop := ∀ t, B.has t → 0 < B.us t

theorem cntE_pos {t : Tree} {es : Ents} : 0 < cntE t es ↔ ∃ e ∈ es, e.2 = t := by
  unfold cntE; rw [List.countP_pos_iff]; simp
theorem cntE_zero {t : Tree} {es : Ents} (h : ∀ e ∈ es, e.2 ≠ t) : cntE t es = 0 := by
  have := mt cntE_pos.1 (by rintro ⟨e, he, h2⟩; exact h e he h2); omega
theorem cntE_take {t : Tree} {es : Ents} {k : Nat} (h : k < es.length) : cntE t (es.take (k + 1)) = cntE t (es.take k) + one es[k].2 t := by
  unfold cntE one
  rw [List.take_succ_eq_append_getElem h, List.countP_append, List.countP_singleton]
  congr 1
  by_cases e : t = es[k].2
  · rw [if_pos (by simp [e]), if_pos e]
  · rw [if_neg (by simpa using Ne.symm e), if_neg e]
theorem cntE_drop {t : Tree} {es : Ents} {k : Nat} (h : k < es.length) : cntE t (es.drop k) = one es[k].2 t + cntE t (es.drop (k + 1)) := by
  unfold cntE one
  rw [List.drop_eq_getElem_cons h, List.countP_cons, Nat.add_comm]
  congr 1
  by_cases e : t = es[k].2
  · rw [if_pos (by simp [e]), if_pos e]
  · rw [if_neg (by simpa using Ne.symm e), if_neg e]
theorem cntE_full {t : Tree} {es : Ents} {k : Nat} (h : es.length ≤ k) : cntE t (es.take k) = cntE t es := by rw [List.take_of_length_le h]

theorem occD_pos {ds : List Ents} {t : Tree} : 0 < occD ds t ↔ ∃ es ∈ ds, ∃ e ∈ es, e.2 = t := by
  unfold occD
  induction ds with
  | nil => simp
  | cons a ds ih =>
    simp only [List.map_cons, List.sum_cons, List.mem_cons, exists_eq_or_imp]
    rw [← ih, ← cntE_pos]; omega
theorem occD_app (ds : List Ents) (es : Ents) (t : Tree) : occD (ds ++ [es]) t = occD ds t + cntE t es := by unfold occD; simp
theorem occD_erase {ds : List Ents} {es : Ents} {j : Nat} (hj : ds[j]? = some es) (t : Tree) : occD (ds.eraseIdx j) t + cntE t es = occD ds t := by
  unfold occD
  induction ds generalizing j with
  | nil => simp at hj
  | cons a ds ih =>
    cases j with
    | zero => simp at hj; subst hj; simp; omega
    | succ j =>
      simp only [List.getElem?_cons_succ] at hj
      have := ih hj
      simp only [List.eraseIdx_cons_succ, List.map_cons, List.sum_cons]; omega
theorem occS_pos {ss : List (Nat × Ents)} {t : Tree} : 0 < occS ss t ↔ ∃ s ∈ ss, Tree.dir s.2 = t := by
  unfold occS; rw [List.countP_pos_iff]; simp
theorem occS_app (ss : List (Nat × Ents)) (n : Nat) (es : Ents) (t : Tree) : occS (ss ++ [(n, es)]) t = occS ss t + one (.dir es) t := by
  unfold occS one
  rw [List.countP_append, List.countP_singleton]
  congr 1
  by_cases e : t = .dir es
  · rw [if_pos (by simp [e]), if_pos e]
  · rw [if_neg (by simpa using Ne.symm e), if_neg e]
theorem occS_erase {ss : List (Nat × Ents)} {n : Nat} {es : Ents} {j : Nat} (hj : ss[j]? = some (n, es)) (t : Tree) : occS (ss.eraseIdx j) t + one (.dir es) t = occS ss t := by
  induction ss generalizing j with
  | nil => simp at hj
  | cons a ds ih =>
    have hc : ∀ (a : Nat × Ents) l, occS (a :: l) t = one (.dir a.2) t + occS l t := by
      intro a l
      unfold occS one
      rw [List.countP_cons, Nat.add_comm]
      congr 1
      by_cases e : t = .dir a.2
      · rw [if_pos (by simp [e]), if_pos e]
      · rw [if_neg (by simpa using Ne.symm e), if_neg e]
    cases j with
    | zero => simp at hj; subst hj; rw [hc]; simp; omega
    | succ j =>
      simp only [List.getElem?_cons_succ] at hj
      have := ih hj
      simp only [List.eraseIdx_cons_succ]; rw [hc, hc]; omega

theorem Exact.hold {B : Bank} {x : Tree → Nat} (h : Exact B x) (t : Tree) : Exact { B with us := upd B.us t (B.us t + 1) } (fun s => x s + one t s) := by
  intro s hs
  have := h s hs
  show upd B.us t (B.us t + 1) s = occD B.ds s + occS B.ss s + (x s + one t s)
  by_cases e : s = t
  · subst e; rw [upd_same, one_same]; omega
  · rw [upd_other e, one_other e]; exact this
theorem Exact.less {B : Bank} {x : Tree → Nat} (h : Exact B x) {t : Tree} (ht : 0 < x t) : Exact { B with us := upd B.us t (B.us t - 1) } (fun s => x s - one t s) := by
  intro s hs
  have := h s hs
  show upd B.us t (B.us t - 1) s = occD B.ds s + occS B.ss s + (x s - one t s)
  by_cases e : s = t
  · subst e; rw [upd_same, one_same]; omega
  · rw [upd_other e, one_other e]; exact this
theorem Exact.congr {B : Bank} {x y : Tree → Nat} (h : Exact B x) (hxy : ∀ s, B.has s → x s = y s) : Exact B y := fun s hs => by rw [← hxy s hs]; exact h s hs

section
variable {w : World} {B : Bank} {x : Tree → Nat}

theorem Exact.addFile (h : Exact B x) (hB : BankAt w B) {d : Str} (hn : d ∉ B.fs) (hx : x (.file d) = 0) (b : Nat) : Exact { B with fs := B.fs ++ [d], ad := upd B.ad (.file d) b, us := upd B.us (.file d) 0 } x := by
  intro s hs
  show upd B.us (.file d) 0 s = occD B.ds s + occS B.ss s + x s
  by_cases e : s = .file d
  · subst e
    rw [upd_same, hx]
    have h1 : ¬ 0 < occD B.ds (.file d) := by
      rw [occD_pos]; rintro ⟨es, he, e, hm, h2⟩
      have := hB.closed es he e hm
      rw [h2] at this; exact hn this
    have h2 : ¬ 0 < occS B.ss (.file d) := by rw [occS_pos]; simp
    omega
  · rw [upd_other e]
    refine h s ?_
    cases s with
    | file y => have : y ∈ B.fs ++ [d] := hs; simp at this; exact this.resolve_right (fun e2 => e (by rw [e2]))
    | dir y => exact hs

theorem not_self {es : Ents} : ∀ e ∈ es, e.2 ≠ .dir es := by
  intro e he h
  have := size_child he
  rw [h] at this; omega

theorem Exact.addDir {es : Ents} (h : Exact B (fun s => x s + cntE s es)) (hB : BankAt w B) (hn : es ∉ B.ds) (hx : x (.dir es) = 0) (b : Nat) : Exact { B with ds := B.ds ++ [es], ad := upd B.ad (.dir es) b, us := upd B.us (.dir es) 0 } x := by
  intro s hs
  show upd B.us (.dir es) 0 s = occD (B.ds ++ [es]) s + occS B.ss s + x s
  rw [occD_app]
  by_cases e : s = .dir es
  · subst e
    rw [upd_same, hx, cntE_zero not_self]
    have h1 : ¬ 0 < occD B.ds (.dir es) := by
      rw [occD_pos]; rintro ⟨es', he, e, hm, h2⟩
      have := hB.closed es' he e hm
      rw [h2] at this; exact hn this
    have h2 : ¬ 0 < occS B.ss (.dir es) := by
      rw [occS_pos]; rintro ⟨s, hs, h2⟩
      have := hB.roots s hs
      simp at h2; rw [h2] at this; exact hn this
    omega
  · rw [upd_other e]
    have hb : B.has s := by
      cases s with
      | file y => exact hs
      | dir y => have : y ∈ B.ds ++ [es] := hs; simp at this; exact this.resolve_right (fun e2 => e (by rw [e2]))
    have := h s hb
    simp only at this
    omega

theorem Exact.delFile (h : Exact B x) {j : Nat} : Exact { B with fs := B.fs.eraseIdx j } x := by
  intro s hs
  refine h s ?_
  cases s with
  | file y => exact List.mem_of_mem_eraseIdx hs
  | dir y => exact hs
theorem Exact.delDir (h : Exact B x) {es : Ents} {j : Nat} (hj : B.ds[j]? = some es) : Exact { B with ds := B.ds.eraseIdx j } (fun s => x s + cntE s es) := by
  intro s hs
  have hb : B.has s := by
    cases s with
    | file y => exact hs
    | dir y => exact List.mem_of_mem_eraseIdx hs
  have h1 := h s hb
  have h2 := occD_erase hj s
  show B.us s = occD (B.ds.eraseIdx j) s + occS B.ss s + (x s + cntE s es)
  omega
end

mutual
theorem dirsT_trans : ∀ (t : Tree) (a b : Ents), a ∈ dirsT t → b ∈ dirsE a → b ∈ dirsT t
  | .file _, a, b, h, _ => by simp [dirsT] at h
  | .dir es, a, b, h, hb => by
    simp only [dirsT, List.mem_cons] at h ⊢
    rcases h with rfl | h
    · exact .inr hb
    · exact .inr (dirsE_trans es a b h hb)
theorem dirsE_trans : ∀ (es : Ents) (a b : Ents), a ∈ dirsE es → b ∈ dirsE a → b ∈ dirsE es
  | [], a, b, h, _ => by simp [dirsE] at h
  | (x, t) :: es, a, b, h, hb => by
    simp only [dirsE, List.mem_append] at h ⊢
    rcases h with h | h
    · exact .inl (dirsT_trans t a b h hb)
    · exact .inr (dirsE_trans es a b h hb)
end
theorem dirsE_child {es a : Ents} {e : Str × Tree} (he : e ∈ es) (h : e.2 = .dir a) : a ∈ dirsE es := by
  induction es with
  | nil => simp at he
  | cons f es ih =>
    obtain ⟨x, t⟩ := f
    simp only [dirsE, List.mem_append]
    simp at he; rcases he with rfl | he
    · left; simp only at h; subst h; simp [dirsT]
    · exact .inr (ih he)
theorem filesE_child {es : Ents} {e : Str × Tree} {f : NF} (he : e ∈ es) (h : f ∈ filesT e.2) : ∃ p, (p, f.2) ∈ filesE es := by
  induction es with
  | nil => simp at he
  | cons g es ih =>
    obtain ⟨x, t⟩ := g
    simp only [filesE, List.mem_append, List.mem_map]
    simp at he; rcases he with rfl | he
    · exact ⟨x :: f.1, .inl ⟨f, h, rfl⟩⟩
    · obtain ⟨p, hp⟩ := ih he; exact ⟨p, .inr hp⟩
mutual
theorem files_dirsT : ∀ (t : Tree) (a : Ents) (p : List Str) (d : Str), a ∈ dirsT t → (p, d) ∈ filesE a → ∃ q, (q, d) ∈ filesT t
  | .file _, a, p, d, h, _ => by simp [dirsT] at h
  | .dir es, a, p, d, h, hb => by
    simp only [dirsT, List.mem_cons] at h
    rw [filesT]
    rcases h with rfl | h
    · exact ⟨p, hb⟩
    · exact files_dirsE es a p d h hb
theorem files_dirsE : ∀ (es : Ents) (a : Ents) (p : List Str) (d : Str), a ∈ dirsE es → (p, d) ∈ filesE a → ∃ q, (q, d) ∈ filesE es
  | [], a, p, d, h, _ => by simp [dirsE] at h
  | (x, t) :: es, a, p, d, h, hb => by
    simp only [dirsE, List.mem_append] at h
    simp only [filesE, List.mem_append, List.mem_map]
    rcases h with h | h
    · obtain ⟨q, hq⟩ := files_dirsT t a p d h hb; exact ⟨x :: q, .inl ⟨(q, d), hq, rfl⟩⟩
    · obtain ⟨q, hq⟩ := files_dirsE es a p d h hb; exact ⟨q, .inr hq⟩
end
mutual
theorem has_dirsT {B : Bank} (hc : ∀ es, es ∈ B.ds → ∀ e, e ∈ es → B.has e.2) : ∀ (t : Tree), B.has t → ∀ a ∈ dirsT t, a ∈ B.ds
  | .file _, _, a, h => by simp [dirsT] at h
  | .dir es, ht, a, h => by
    simp only [dirsT, List.mem_cons] at h
    rcases h with rfl | h
    · exact ht
    · exact has_dirsE hc es (hc es ht) a h
theorem has_dirsE {B : Bank} (hc : ∀ es, es ∈ B.ds → ∀ e, e ∈ es → B.has e.2) : ∀ (es : Ents), (∀ e ∈ es, B.has e.2) → ∀ a ∈ dirsE es, a ∈ B.ds
  | [], _, a, h => by simp [dirsE] at h
  | (x, t) :: es, he, a, h => by
    simp only [dirsE, List.mem_append] at h
    rcases h with h | h
    · exact has_dirsT hc t (he (x, t) (by simp)) a h
    · exact has_dirsE hc es (fun e hm => he e (by simp [hm])) a h
end
mutual
theorem has_filesT {B : Bank} (hc : ∀ es, es ∈ B.ds → ∀ e, e ∈ es → B.has e.2) : ∀ (t : Tree), B.has t → ∀ f ∈ filesT t, f.2 ∈ B.fs
  | .file _, ht, f, h => by simp only [filesT, List.mem_singleton] at h; subst h; exact ht
  | .dir es, ht, f, h => by rw [filesT] at h; exact has_filesE hc es (hc es ht) f h
theorem has_filesE {B : Bank} (hc : ∀ es, es ∈ B.ds → ∀ e, e ∈ es → B.has e.2) : ∀ (es : Ents), (∀ e ∈ es, B.has e.2) → ∀ f ∈ filesE es, f.2 ∈ B.fs
  | [], _, f, h => by simp [filesE] at h
  | (x, t) :: es, he, f, h => by
    simp only [filesE, List.mem_append, List.mem_map] at h
    rcases h with ⟨g, h, rfl⟩ | h
    · exact has_filesT hc t (he (x, t) (by simp)) g h
    · exact has_filesE hc es (fun e hm => he e (by simp [hm])) f h
end

theorem max_size (ds : List Ents) : ∃ M, ∀ es ∈ ds, SizeOf.sizeOf (Tree.dir es) ≤ M := by
  induction ds with
  | nil => exact ⟨0, by simp⟩
  | cons a ds ih =>
    obtain ⟨M, h⟩ := ih
    refine ⟨M + SizeOf.sizeOf (Tree.dir a), fun es he => ?_⟩
    simp only [List.mem_cons] at he; rcases he with rfl | he
    · omega
    · have := h es he; omega

theorem bank_reach {w : World} {B : Bank} {x : Tree → Nat} {roots : List Ents} (_hB : BankAt w B) (hx : Exact B x) (hp : Pos B) (hr : ∀ t, 0 < occS B.ss t + x t → ∃ r ∈ roots, t = .dir r) (M : Nat) (hM : ∀ es ∈ B.ds, SizeOf.sizeOf (Tree.dir es) ≤ M) :
    ∀ n es, M - SizeOf.sizeOf (Tree.dir es) ≤ n → es ∈ B.ds → ∃ r ∈ roots, es = r ∨ es ∈ dirsE r := by
  intro n
  induction n with
  | zero =>
    intro es hn he
    have h1 := hx (.dir es) he
    have h2 := hp (.dir es) he
    by_cases h3 : 0 < occD B.ds (.dir es)
    · obtain ⟨es', he', e, hm, h4⟩ := occD_pos.1 h3
      have h5 := size_child hm
      have h6 := hM es' he'
      rw [h4] at h5; omega
    · obtain ⟨r, hr1, hr2⟩ := hr (.dir es) (by omega)
      exact ⟨r, hr1, .inl (by simpa using hr2)⟩
  | succ n ih =>
    intro es hn he
    have h1 := hx (.dir es) he
    have h2 := hp (.dir es) he
    by_cases h3 : 0 < occD B.ds (.dir es)
    · obtain ⟨es', he', e, hm, h4⟩ := occD_pos.1 h3
      have h5 := size_child hm
      have h6 := hM es' he'
      rw [h4] at h5
      obtain ⟨r, hr1, hr2⟩ := ih es' (by omega) he'
      refine ⟨r, hr1, .inr ?_⟩
      have h7 := dirsE_child hm h4
      rcases hr2 with rfl | hr2
      · exact h7
      · exact dirsE_trans r es' es hr2 h7
    · obtain ⟨r, hr1, hr2⟩ := hr (.dir es) (by omega)
      exact ⟨r, hr1, .inl (by simpa using hr2)⟩

/-- What the registers count is what the document counts. -/
theorem bank_cells {w : World} {B : Bank} {x : Tree → Nat} {roots : List Ents} (hB : BankAt w B) (hx : Exact B x) (hp : Pos B) (hwf : ∀ r ∈ roots, WFE r) (hin : ∀ r ∈ roots, r ∈ B.ds) (hr : ∀ t, 0 < occS B.ss t + x t → ∃ r ∈ roots, t = .dir r) :
    cellsL (roots.map fun r => toF (filesE r)) = B.ds.length + B.fs.length := by
  obtain ⟨M, hM⟩ := max_size B.ds
  have hreach := bank_reach hB hx hp hr M hM
  have h1 := cells_dirs hwf hB.ndD (fun b => ⟨fun hb => hreach _ b (Nat.le_refl _) hb, by
    rintro ⟨r, hr, rfl | hb⟩
    · exact hin _ hr
    · exact has_dirsE hB.closed r (hB.closed r (hin r hr)) b hb⟩)
  have h2 := cells_data (roots := roots) hB.ndF (fun d => ⟨fun hd => by
    have h3 := hx (.file d) hd
    have h4 := hp (.file d) hd
    have h5 : ¬ 0 < occS B.ss (.file d) + x (.file d) := by intro h; obtain ⟨r, _, h⟩ := hr _ h; simp at h
    obtain ⟨es, he, e, hm, h6⟩ := occD_pos.1 (show 0 < occD B.ds (.file d) by omega)
    obtain ⟨p, hp⟩ := filesE_child (f := ([], d)) hm (by rw [h6]; simp [filesT])
    obtain ⟨r, hr1, rfl | hr2⟩ := hreach _ es (Nat.le_refl _) he
    · exact ⟨_, hr1, p, hp⟩
    · obtain ⟨q, hq⟩ := files_dirsE r es p d hr2 hp; exact ⟨r, hr1, q, hq⟩, by
    rintro ⟨r, hr, p, hp⟩
    exact has_filesE hB.closed r (hB.closed r (hin r hr)) (p, d) hp⟩)
  unfold cellsL; rw [h1, h2]

end Go.Proofs.YtdcbgfhkfmohiaaGreatDoor

/- Frames of the store's inner calls; hold, letGo. -/
namespace Go.Proofs.YtdcbgfhkfmohiaaGreatDoor
open Go.RowKit

/-- What may have become of a block: nothing, its users if R, or a register. -/
def Turned (R : Nat → Prop) (B : Bank) (w w' : World) (b : Nat) : Prop :=
  w'.heap[b]? = w.heap[b]? ∨ (R b ∧ ((∃ u u' d, FileAt w b u d ∧ FileAt w' b u' d) ∨ (∃ u u' vs, DirAt w b u vs ∧ DirAt w' b u' vs))) ∨ b = B.sb ∨ b = B.rs ∨ b = B.rd ∨ b = B.rf

structure Step (R : Nat → Prop) (B : Bank) (w w' : World) : Prop where
  os : w'.os = w.os
  tape : w'.tape = w.tape
  output : w'.output = w.output
  size : w.heap.size ≤ w'.heap.size
  blk : ∀ b, b < w.heap.size → Turned R B w w' b

theorem Step.refl (R : Nat → Prop) (B : Bank) (w : World) : Step R B w w := ⟨rfl, rfl, rfl, Nat.le_refl _, fun _ _ => .inl rfl⟩
theorem Step.mono {R R' : Nat → Prop} {B : Bank} {w w' : World} (h : Step R B w w') (hR : ∀ b, R b → R' b) : Step R' B w w' :=
  ⟨h.os, h.tape, h.output, h.size, fun b hb => by
    rcases h.blk b hb with h | ⟨h1, h2⟩ | h
    · exact .inl h
    · exact .inr (.inl ⟨hR b h1, h2⟩)
    · exact .inr (.inr h)⟩
theorem Step.trans {R : Nat → Prop} {B : Bank} {w w1 w2 : World} (h : Step R B w w1) (k : Step R B w1 w2) : Step R B w w2 :=
  ⟨k.os.trans h.os, k.tape.trans h.tape, k.output.trans h.output, Nat.le_trans h.size k.size, fun b hb => by
    rcases h.blk b hb with h1 | ⟨hr, h1⟩ | h1
    · rcases k.blk b (Nat.lt_of_lt_of_le hb h.size) with h2 | ⟨hr2, h2⟩ | h2
      · exact .inl (h2.trans h1)
      · refine .inr (.inl ⟨hr2, ?_⟩)
        rcases h2 with ⟨u, u', d, a1, a2⟩ | ⟨u, u', vs, a1, a2⟩
        · exact .inl ⟨u, u', d, h1.symm.trans a1, a2⟩
        · exact .inr ⟨u, u', vs, ⟨a1.1, h1.symm.trans a1.2⟩, a2⟩
      · exact .inr (.inr h2)
    · rcases k.blk b (Nat.lt_of_lt_of_le hb h.size) with h2 | ⟨hr2, h2⟩ | h2
      · refine .inr (.inl ⟨hr, ?_⟩)
        rcases h1 with ⟨u, u', d, a1, a2⟩ | ⟨u, u', vs, a1, a2⟩
        · exact .inl ⟨u, u', d, a1, h2.trans a2⟩
        · exact .inr ⟨u, u', vs, a1, ⟨a2.1, h2.trans a2.2⟩⟩
      · refine .inr (.inl ⟨hr, ?_⟩)
        rcases h1 with ⟨u, u', d, a1, a2⟩ | ⟨u, u', vs, a1, a2⟩
        · rcases h2 with ⟨v, v', d', b1, b2⟩ | ⟨v, v', vs', b1, b2⟩
          · have := (fileAt_inj a2 b1).2; subst this; exact .inl ⟨u, v', d, a1, b2⟩
          · exact (file_not_dir a2 b1).elim
        · rcases h2 with ⟨v, v', d', b1, b2⟩ | ⟨v, v', vs', b1, b2⟩
          · exact (file_not_dir b1 a2).elim
          · have := (dirAt_inj a2 b1).2; subst this; exact .inr ⟨u, v', vs, a1, b2⟩
      · exact .inr (.inr h2)
    · exact .inr (.inr h1)⟩

structure SameB (B B' : Bank) : Prop where
  sb : B'.sb = B.sb
  rs : B'.rs = B.rs
  rd : B'.rd = B.rd
  rf : B'.rf = B.rf
  rr : B'.rr = B.rr
  room : B'.room = B.room
  made : B'.made = B.made
  ss : B'.ss = B.ss
theorem SameB.refl (B : Bank) : SameB B B := ⟨rfl, rfl, rfl, rfl, rfl, rfl, rfl, rfl⟩
theorem SameB.trans {A B C : Bank} (h : SameB A B) (k : SameB B C) : SameB A C := ⟨k.sb.trans h.sb, k.rs.trans h.rs, k.rd.trans h.rd, k.rf.trans h.rf, k.rr.trans h.rr, k.room.trans h.room, k.made.trans h.made, k.ss.trans h.ss⟩
theorem Step.cong {R : Nat → Prop} {B B' : Bank} {w w' : World} (h : Step R B w w') (hs : SameB B B') : Step R B' w w' :=
  ⟨h.os, h.tape, h.output, h.size, fun b hb => by unfold Turned; rw [hs.sb, hs.rs, hs.rd, hs.rf]; exact h.blk b hb⟩
theorem Step.back {R : Nat → Prop} {B B' : Bank} {w w' : World} (h : Step R B' w w') (hs : SameB B B') : Step R B w w' :=
  ⟨h.os, h.tape, h.output, h.size, fun b hb => by have := h.blk b hb; unfold Turned at *; rw [hs.sb, hs.rs, hs.rd, hs.rf] at this; exact this⟩

theorem Step.of_below {R : Nat → Prop} {B : Bank} {w w' : World} (h : Below w.heap.size w w') : Step R B w w' := ⟨h.os, h.tape, h.output, h.size, fun b hb => .inl (h.block b hb)⟩
theorem Step.of_users {R : Nat → Prop} {B : Bank} {w w' : World} (hB : BankAt w B) {t : Tree} (ht : B.has t) {u : Nat} (hs : Set1 w w' (B.ad t) (NodeO B.ad t u)) (hR : R (B.ad t)) : Step R B w w' :=
  ⟨hs.os, hs.tape, hs.output, by rw [hs.size]; exact Nat.le_refl _, fun b _ => by
    by_cases e : b = B.ad t
    · subst e
      refine .inr (.inl ⟨hR, ?_⟩)
      cases t with
      | file d => exact .inl ⟨_, _, d, hB.files d ht, hs.here⟩
      | dir es => exact .inr ⟨_, _, _, hB.dirs es ht, ⟨(hB.dirs es ht).1, hs.here⟩⟩
    · exact .inl (hs.other b e)⟩
theorem Step.of_reg {R : Nat → Prop} {B : Bank} {w w' : World} {r : Nat} {o : Obj} (hs : Set1 w w' r o) (hr : r = B.sb ∨ r = B.rs ∨ r = B.rd ∨ r = B.rf) : Step R B w w' :=
  ⟨hs.os, hs.tape, hs.output, by rw [hs.size]; exact Nat.le_refl _, fun b _ => by
    by_cases e : b = r
    · subst e; exact .inr (.inr hr)
    · exact .inl (hs.other b e)⟩

section
variable {R : Nat → Prop} {B : Bank} {w w' : World}

/-- Not one of the store's own four blocks. -/
theorem BankAt.own4 (h : BankAt w B) {b : Nat} {cs : Array Value} {t : TypeId} (hb : w.heap[b]? = some (.cells cs t (0, 0))) (ht : t ≠ 87) : ¬ (b = B.sb ∨ b = B.rs ∨ b = B.rd ∨ b = B.rf) := by
  obtain ⟨m1, c1, h1, _⟩ := h.snaps
  obtain ⟨m2, c2, h2, _⟩ := h.dmap
  obtain ⟨m3, c3, h3, _⟩ := h.fmap
  have h4 := h.store
  rintro (e | e | e | e) <;> rw [e] at hb
  · rw [h4] at hb; simp at hb; exact ht hb.2.symm
  · rw [h1] at hb; simp at hb
  · rw [h2] at hb; simp at hb
  · rw [h3] at hb; simp at hb

theorem Step.dirAt (h : Step R B w w') (hB : BankAt w B) {b : Nat} {u : Int} {vs : List (Str × Value)} (hd : DirAt w b u vs) : ∃ u', DirAt w' b u' vs ∧ (u' = u ∨ R b) := by
  rcases h.blk b hd.lt with h1 | ⟨hr, h1⟩ | h1
  · exact ⟨u, ⟨hd.1, h1.trans hd.2⟩, .inl rfl⟩
  · rcases h1 with ⟨v, v', d, a1, a2⟩ | ⟨v, v', vs', a1, a2⟩
    · exact (file_not_dir a1 hd).elim
    · have := (dirAt_inj a1 hd).2; subst this; exact ⟨v', a2, .inr hr⟩
  · exact (hB.own4 hd.2 (by decide) h1).elim
theorem Step.fileAt (h : Step R B w w') (hB : BankAt w B) {b : Nat} {u : Int} {d : Str} (hd : FileAt w b u d) : ∃ u', FileAt w' b u' d ∧ (u' = u ∨ R b) := by
  rcases h.blk b hd.lt with h1 | ⟨hr, h1⟩ | h1
  · exact ⟨u, h1.trans hd, .inl rfl⟩
  · rcases h1 with ⟨v, v', d', a1, a2⟩ | ⟨v, v', vs', a1, a2⟩
    · have := (fileAt_inj a1 hd).2; subst this; exact ⟨v', a2, .inr hr⟩
    · exact (file_not_dir hd a1).elim
  · exact (hB.own4 hd (by decide) h1).elim
theorem Step.other (h : Step R B w w') (hB : BankAt w B) {b : Nat} {cs : Array Value} {t : TypeId} (hb : w.heap[b]? = some (.cells cs t (0, 0))) (h1 : t ≠ 87) (h2 : t ≠ 135) (h3 : t ≠ 149) : w'.heap[b]? = w.heap[b]? := by
  rcases h.blk b (Array.getElem?_eq_some_iff.1 hb).1 with h4 | ⟨_, h4⟩ | h4
  · exact h4
  · rcases h4 with ⟨v, v', d', a1, a2⟩ | ⟨v, v', vs', a1, a2⟩
    · unfold FileAt at a1; rw [hb] at a1; simp at a1; exact (h2 a1.2).elim
    · have := a1.2; rw [hb] at this; simp at this; exact (h3 this.2).elim
  · exact (hB.own4 hb h1 h4).elim
end

/-- Where a tree's nodes lie: a node with users, or an old one, is a kept one. -/
def QK (N : Nat) (B : Bank) (b : Nat) (u : Int) : Prop := (u ≠ 0 ∨ b < N) → B.reg b

/-- From one state of the store to another that keeps more. -/
structure Grow (N : Nat) (w : World) (B : Bank) (w' : World) (B' : Bank) : Prop where
  same : SameB B B'
  at' : BankAt w' B'
  old : ∀ t, B.has t → B'.has t ∧ B'.ad t = B.ad t ∧ B.us t ≤ B'.us t
  new : ∀ t, B'.has t → B.has t ∨ N ≤ B'.ad t
  step : Step B'.reg B w w'

theorem Grow.refl {N : Nat} {w : World} {B : Bank} (h : BankAt w B) : Grow N w B w B := ⟨SameB.refl B, h, fun _ ht => ⟨ht, rfl, Nat.le_refl _⟩, fun _ ht => .inl ht, Step.refl _ _ _⟩
theorem Grow.reg {N : Nat} {w w' : World} {B B' : Bank} (h : Grow N w B w' B') : ∀ b, B.reg b → B'.reg b := by
  rintro b ⟨t, h1, h2⟩
  obtain ⟨a, c, _⟩ := h.old t h1
  exact ⟨t, a, c.trans h2⟩
theorem Grow.trans {N : Nat} {w w1 w2 : World} {B B1 B2 : Bank} (h : Grow N w B w1 B1) (k : Grow N w1 B1 w2 B2) : Grow N w B w2 B2 where
  same := h.same.trans k.same
  at' := k.at'
  old := fun t ht => by
    obtain ⟨a1, a2, a3⟩ := h.old t ht
    obtain ⟨b1, b2, b3⟩ := k.old t a1
    exact ⟨b1, b2.trans a2, Nat.le_trans a3 b3⟩
  new := fun t ht => by
    rcases k.new t ht with h1 | h1
    · rcases h.new t h1 with h2 | h2
      · exact .inl h2
      · right; rw [(k.old t h1).2.1]; exact h2
    · exact .inr h1
  step := (h.step.mono k.reg).trans (k.step.back h.same)

theorem Grow.rep {N : Nat} {w w' : World} {B B' : Bank} (h : Grow N w B w' B') (hB : BankAt w B) {v : Value} {t : Tree} (hr : RepT w (QK N B) v t) : RepT w' (QK N B') v t :=
  hr.keep (fun b u vs hd hq => by
    obtain ⟨u', h1, h2⟩ := h.step.dirAt hB hd
    refine ⟨u', h1, fun hx => ?_⟩
    rcases h2 with rfl | h2
    · exact h.reg b (hq hx)
    · exact h2) (fun b u d hd hq => by
    obtain ⟨u', h1, h2⟩ := h.step.fileAt hB hd
    refine ⟨u', h1, fun hx => ?_⟩
    rcases h2 with rfl | h2
    · exact h.reg b (hq hx)
    · exact h2)
theorem Grow.reps {N : Nat} {w w' : World} {B B' : Bank} (h : Grow N w B w' B') (hB : BankAt w B) {vs : List (Str × Value)} {es : Ents} (hr : RepE w (QK N B) vs es) : RepE w' (QK N B') vs es := by
  induction vs generalizing es with
  | nil => cases hr; exact .nil
  | cons f vs ih => cases hr with
    | cons h1 h2 => exact .cons (h.rep hB h1) (ih h2)

theorem setCell_set1 {w : World} {b i : Nat} {cs : Array Value} {t : TypeId} (h : w.heap[b]? = some (.cells cs t (0, 0))) (u : Value) : Set1 w (w.setCell ⟨b, i, none⟩ u) b (.cells (cs.setIfInBounds i u) t (0, 0)) :=
  ⟨rfl, rfl, rfl, by simp [World.setCell], setCell_blk h u, fun k hk => Below.heap_setCell _ _ _ _ hk⟩
theorem users_set1 {w : World} {B : Bank} (hB : BankAt w B) {t : Tree} (ht : B.has t) (u : Nat) : Set1 w (w.setCell ⟨B.ad t, 0, none⟩ (.int .i64 u)) (B.ad t) (NodeO B.ad t u) := by
  have h := hB.nodeO ht
  cases t with
  | file d => exact setCell_set1 h _
  | dir es => exact setCell_set1 h _
theorem users_cell {w : World} {B : Bank} (hB : BankAt w B) {t : Tree} (ht : B.has t) : w.cell? ⟨B.ad t, 0, none⟩ = some (.int .i64 (B.us t)) ∧ w.frozen? ⟨B.ad t, 0, none⟩ = false := by
  have h := hB.nodeO ht
  cases t with
  | file d => exact ⟨(blk_cell h 0).trans rfl, blk_free h 0⟩
  | dir es => exact ⟨(blk_cell h 0).trans rfl, blk_free h 0⟩

theorem hold_any (b : Nat) (u : Nat) (w : World) (h : w.cell? ⟨b, 0, none⟩ = some (.int .i64 u)) (hf : w.frozen? ⟨b, 0, none⟩ = false) (hu : u < 4611686018427387904) :
    Calls Tryz.prog 92 #[.pointer (some ⟨b, 0, none⟩)] w fun e w' => e = .returned (.tuple #[]) ∧ w' = w.setCell ⟨b, 0, none⟩ (.int .i64 (u + 1 : Nat)) := by
  go_enter Tryz.func92, Tryz.ntmps92
  go_wp2
  go_end0
  exact ⟨rfl, rfl⟩

theorem letGo_any (b : Nat) (u : Nat) (w : World) (h : w.cell? ⟨b, 0, none⟩ = some (.int .i64 u)) (hf : w.frozen? ⟨b, 0, none⟩ = false) (hu : u < 4611686018427387904) (h1 : 1 ≤ u) :
    Calls Tryz.prog 212 #[.pointer (some ⟨b, 0, none⟩)] w fun e w' => e = .returned (.int .i64 (u - 1 : Nat)) ∧ w' = w.setCell ⟨b, 0, none⟩ (.int .i64 (u - 1 : Nat)) := by
  go_enter Tryz.func212, Tryz.ntmps212
  go_wp2
  go_ret
  refine ⟨?_, ?_⟩
  · rw [show ((u - 1 : Nat) : Int) = (u : Int) - 1 from by omega]; rfl
  · rw [show ((u - 1 : Nat) : Int) = (u : Int) - 1 from by omega]

end Go.Proofs.YtdcbgfhkfmohiaaGreatDoor

/- keepFile. -/
namespace Go.Proofs.YtdcbgfhkfmohiaaGreatDoor
open Go.RowKit

theorem step_delete {P : Program} {ops : Array Oper} {op : Oper} {a : Act} {w : World} {K : Act → World → Prop} {Q : Exit → Act → World → Prop} {E : Prop} (hgd : op.guard = none) (t kt : TypeId) (m k : Operand)
    (ho : op.op = .call { callee := .builtin .delete, args := #[m, k], argTypes := #[t, kt] }) (mv kv : Value) (hm : a.eval m = mv) (hk : a.eval k = kv) {S : World → Prop} (hr : ∀ ty, ∃ w', (Builtin.delete_ #[t, kt] ty #[mv, kv]).run P w = .ok (.tuple #[]) w' ∧ S w')
    (h : ∀ w', S w' → K (a.put op.dst (.tuple #[])) w') : if Region.wanted op (yielded ops a.tmps) = true then Oper.wp P op a w K Q else E := by
  have hw : Region.wanted op (yielded ops a.tmps) = true := by simp [Region.wanted, hgd]
  obtain ⟨w', hr, hs⟩ := hr op.type
  rw [if_pos hw]
  unfold Oper.wp
  simp only [execOp, ho, resolve, invoke, builtin, Sem.run_bind, Sem.run_pure, Result.andThen_ok, List.map_toArray, List.map_cons, List.map_nil, hm, hk, hr]
  exact h w' hs

/-- What keeping a tree answers: the one node that stands for it. -/
def KeepOut1 (N : Nat) (w : World) (B : Bank) (t : Tree) (w' : World) (B' : Bank) : Prop :=
  Grow N w B w' B' ∧ Exact B' (fun _ => 0) ∧ B'.has t ∧ (∀ s, B'.has s → B'.us s = 0 → s = t ∨ (B.has s ∧ B.us s = 0)) ∧ B'.ds.length ≤ B.ds.length + (dirsT t).length

theorem zeroFile (w : World) : (zeroValue 131).run Tryz.prog w = .ok (.pointer none) w := by kernel_rfl
theorem zeroDir (w : World) : (zeroValue 89).run Tryz.prog w = .ok (.pointer none) w := by kernel_rfl

theorem BankAt.below {w w' : World} {B : Bank} (h : BankAt w B) (hb : Below w.heap.size w w') : BankAt w' B := by
  have key : ∀ (k : Nat) (o : Obj), w.heap[k]? = some o → w'.heap[k]? = some o := fun k o hk => (hb.block k (Array.getElem?_eq_some_iff.1 hk).1).trans hk
  obtain ⟨m1, c1, h1, k1⟩ := h.snaps
  obtain ⟨m2, c2, h2, k2⟩ := h.dmap
  obtain ⟨m3, c3, h3, k3⟩ := h.fmap
  exact ⟨key _ _ h.store, ⟨m1, c1, key _ _ h1, k1⟩, ⟨m2, c2, key _ _ h2, k2⟩, ⟨m3, c3, key _ _ h3, k3⟩, h.apart, fun d hd => key _ _ (h.files d hd), fun es he => ⟨(h.dirs es he).1, key _ _ (h.dirs es he).2⟩, h.closed, h.roots, h.ndD, h.ndF, h.ndS⟩
theorem Grow.below {N : Nat} {w w1 w2 : World} {B B1 : Bank} (h : Grow N w B w1 B1) (hb : Below w1.heap.size w1 w2) : Grow N w B w2 B1 :=
  ⟨h.same, h.at'.below hb, h.old, h.new, h.step.trans (Step.of_below hb)⟩
theorem below_like {w w' : World} (h : w'.os = w.os) (h1 : w'.tape = w.tape) (h2 : w'.output = w.output) (h3 : w'.heap = w.heap) : Below w.heap.size w w' := ⟨h, h1, h2, by rw [h3]; exact Nat.le_refl _, fun _ _ => by rw [h3]⟩

theorem reg_file {w : World} {B : Bank} (hB : BankAt w B) {b : Nat} {u : Int} {d : Str} (hf : FileAt w b u d) (hr : B.reg b) : d ∈ B.fs ∧ B.ad (.file d) = b := by
  obtain ⟨t, h1, h2⟩ := hr
  cases t with
  | file d' =>
    have := hB.files d' h1
    rw [h2] at this
    have e := (fileAt_inj hf this).2
    subst e
    exact ⟨h1, h2⟩
  | dir es =>
    have := hB.dirs es h1
    rw [h2] at this
    exact (file_not_dir hf this).elim

set_option maxHeartbeats 2000000 in
theorem keepFile_any (N : Nat) (B : Bank) (b : Nat) (u : Int) (d : Str) (w : World) (hB : BankAt w B) (hx : Exact B (fun _ => 0)) (hf : FileAt w b u d) (hq : QK N B b u) :
    Calls Tryz.prog 162 #[ptrV B.sb, ptrV b] w fun e w' => ∃ B', KeepOut1 N w B (.file d) w' B' ∧ e = .returned (ptrV (B'.ad (.file d))) := by
  obtain ⟨m, clock, hm, hh, hF⟩ := hB.find_file d
  have s4 : w.cell? ⟨B.sb, 4, none⟩ = some (.map (some B.rf)) := (blk_cell hB.store 4).trans rfl
  have f1 : w.cell? ⟨b, 1, none⟩ = some (SV d) := (blk_cell hf 1).trans rfl
  by_cases hd : d ∈ B.fs
  · have hl := run_lookup_in Tryz.underlying84 (w := w.drew) hm (hF w.drew) hd
    have R : Hid (∀ W, Below w.heap.size w W → KeepOut1 N w B (.file d) W B) := fun W hW => ⟨(Grow.refl hB).below hW, hx, hd, fun s hs h0 => .inr ⟨hs, h0⟩, Nat.le_add_right _ _⟩
    clear hB hf hF hh hm hx hq hd
    go_enter Tryz.func162, Tryz.ntmps162
    go_wp2
    go_region
    all_goals
      go_wp2
      go_ret
      exact ⟨B, R.out _ (below_like rfl rfl rfl rfl), rfl⟩
  · have hl := run_lookup_out Tryz.underlying84 (w := w.drew) hm (hF w.drew) hd (zeroFile _)
    obtain ⟨w2, hu, hs⟩ := run_mapUpdate_new Tryz.underlying84 (w := w.drew.drew) hm (hF w.drew.drew) hd (ptrV b)
    have hu0 : u = 0 := Classical.byContradiction fun h => hd (reg_file hB hf (hq (.inl h))).1
    have hN : N ≤ b := by
      by_cases h : b < N
      · exact absurd (reg_file hB hf (hq (.inr h))).1 hd
      · omega
    subst hu0
    have hb0 : Below w.heap.size w w.drew.drew := below_like rfl rfl rfl rfl
    have hB0 := hB.below hb0
    have hs' : Set1 w.drew.drew w2 B.rf _ := hs
    have hB2 := hB0.addFile hd (show FileAt w.drew.drew b 0 d from hf) hm hh hs'
    have hne : ∀ s, B.has s → s ≠ .file d := fun s hs e => hd (by subst e; exact hs)
    have R : Hid (∀ W, Below w2.heap.size w2 W → KeepOut1 N w B (.file d) W { B with fs := B.fs ++ [d], ad := upd B.ad (.file d) b, us := upd B.us (.file d) 0 }) := by
      intro W hW
      refine ⟨Grow.below ⟨⟨rfl, rfl, rfl, rfl, rfl, rfl, rfl, rfl⟩, hB2, ?_, ?_, ?_⟩ hW, hx.addFile hB hd rfl b, ?_, ?_, Nat.le_add_right _ _⟩
      · intro t ht
        refine ⟨?_, upd_other (hne t ht), ?_⟩
        · cases t with
          | file y => exact List.mem_append_left _ ht
          | dir y => exact ht
        · show B.us t ≤ upd B.us (.file d) 0 t
          rw [upd_other (hne t ht)]; exact Nat.le_refl _
      · intro t ht
        by_cases e : t = .file d
        · right; subst e; show N ≤ upd B.ad (.file d) b (.file d); rw [upd_same]; exact hN
        · left
          cases t with
          | file y => have : y ∈ B.fs ++ [d] := ht; simp at this; exact this.resolve_right (fun e2 => e (by rw [e2]))
          | dir y => exact ht
      · exact (Step.of_below hb0).trans (Step.of_reg hs' (.inr (.inr (.inr rfl))))
      · exact List.mem_append_right _ (by simp)
      · intro s hs2 h0
        by_cases e : s = .file d
        · exact .inl e
        · right
          have h1 : upd B.us (.file d) 0 s = B.us s := upd_other e
          refine ⟨?_, h1.symm.trans h0⟩
          cases s with
          | file y => have : y ∈ B.fs ++ [d] := hs2; simp at this; exact this.resolve_right (fun e2 => e (by rw [e2]))
          | dir y => exact hs2
    have R2 : Hid (ptrV b = ptrV (upd B.ad (.file d) b (.file d))) := by rw [Hid, upd_same]
    clear hB hf hF hh hm hx hq hd hs hs' hB2 hB0 hb0 hne
    go_enter Tryz.func162, Tryz.ntmps162
    go_wp2
    go_region
    all_goals
      go_wp2
      go_region
    all_goals
      go_wp2
      go_ret
      exact ⟨_, R.out _ (Below.refl _ _), congrArg Ending.returned R2.out⟩

end Go.Proofs.YtdcbgfhkfmohiaaGreatDoor
