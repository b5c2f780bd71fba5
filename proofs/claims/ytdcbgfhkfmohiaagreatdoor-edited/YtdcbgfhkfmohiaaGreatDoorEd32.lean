/- One step handed in. -/
import Derived.Test.YtdcbgfhkfmohiaaGreatDoorKb31
namespace Go.Proofs.YtdcbgfhkfmohiaaGreatDoor
open Go.ChangeShapes Go.WideShapes Go.ChangeAt Go.RowKit Go.Deep

set_option maxRecDepth 100000 in
theorem open_step1 {H : Type} {enc : TypeId × Value → H} {W : World} {base : Nat} {v : Value} {d : DataW H} {p : List MemPlace} (hv : Value.okWide Tryz.prog W .any base 35 v) (h : DataW.Trod enc Tryz.prog W 0 (fun _ => true) true 35 v d p) : ∃ o : KStep, v = o.val ∧ o.ok := by
  obtain ⟨cs, rfl, _⟩ := okWide_struct Tryz.underlying35 hv
  obtain ⟨fuel, hf⟩ := h
  obtain ⟨o, h1, h2⟩ := open_step hf
  refine ⟨o, ?_, h2⟩
  have h3 : cs.toList = o.cells := by simpa [Value.cells] using h1
  have h4 : cs = o.cells.toArray := by rw [← h3]
  rw [h4]
  rfl

end Go.Proofs.YtdcbgfhkfmohiaaGreatDoor

/- Shared: the statement's lists in memory, and what it asks in pure words. -/
namespace Go.Proofs.YtdcbgfhkfmohiaaGreatDoor
open Go.RowKit

/-- The list of numbers beside the store. -/
structure NumsAt (w0 w : World) (T : Bank) (u : Value) (ns : List Nat) : Prop where
  row : w.ownsRow w0.heap.size 3 1 u ns.length (intsV ns)
  out : ∀ k, u.ownBlock = some k → ¬ T.own k ∧ k ≠ T.rr
theorem NumsAt.edit {w0 w w' : World} {T T' : Bank} {u : Value} {ns : List Nat} (h : NumsAt w0 w T u ns) (h3 : Ext w.heap.size w T w' T') : NumsAt w0 w' T' u ns := by
  refine ⟨rowKept h.row fun j hj => (ext_free h3 (h.row.lt j hj).2 (h.out j hj).1).2, fun k hk => ?_⟩
  rw [show T'.rr = T.rr from h3.four.2.2.2.2]
  exact ⟨(ext_free h3 (h.row.lt k hk).2 (h.out k hk).1).1, (h.out k hk).2⟩
theorem NumsAt.below {w0 w w' : World} {T : Bank} {u : Value} {ns : List Nat} (h : NumsAt w0 w T u ns) (hb : Below w.heap.size w w') : NumsAt w0 w' T u ns :=
  ⟨rowKept h.row fun j hj => hb.block j (h.row.lt j hj).2, h.out⟩
/-- A block that is not the store's. -/
def FreeB (w : World) (T : Bank) (g : Nat) (o : Obj) : Prop := w.heap[g]? = some o ∧ ¬ T.own g
theorem FreeB.edit {w w' : World} {T T' : Bank} {g : Nat} {o : Obj} (h : FreeB w T g o) (h3 : Ext w.heap.size w T w' T') : FreeB w' T' g o := by
  have := ext_free h3 (Array.getElem?_eq_some_iff.1 h.1).1 h.2
  exact ⟨this.2.trans h.1, this.1⟩
theorem FreeB.below {w w' : World} {T : Bank} {g : Nat} {o : Obj} (h : FreeB w T g o) (hb : Below w.heap.size w w') : FreeB w' T g o := ⟨(hb.block g (Array.getElem?_eq_some_iff.1 h.1).1).trans h.1, h.2⟩
theorem Played.good {r : RSt} {ns : List Nat} (h : Played r ns) : ∀ x ∈ r.all, GoodL x.2 := by
  induction h with
  | start => exact good_start
  | @more r ns n o r' m h hl hn ho ih =>
    have hg := grew_good ih (play_good r n o ih)
    rw [ho] at hg
    exact hg
theorem KAt.cells {w0 w : World} {T : Bank} {r : RSt} (h : KAt w0 w T r) : Calls Tryz.prog 16 #[ptrV T.sb] w fun e w' => e = .returned (.int .i64 (cellsOf r : Nat)) ∧ Below w.heap.size w w' := by
  refine (bankCells_any T w h.ok.at' (by have := h.ok.room; omega)).mono ?_
  rintro e w' ⟨rfl, n, rfl⟩
  rw [Agree.cells h.ok h.ag]
  exact ⟨rfl, below_like rfl rfl rfl rfl⟩
theorem KAt.room {w0 w : World} {T : Bank} {r : RSt} (h : KAt w0 w T r) : cellsOf r ≤ r.limit := by
  rw [Agree.cells h.ok h.ag, ← h.ag.room]; exact h.ok.room.1
theorem toF_mem {L : List NF} {x : Fl} (h : x ∈ toF L) : ∃ f ∈ L, x = (joinP f.1, f.2) := by
  unfold toF at h
  rw [List.mem_map] at h
  obtain ⟨f, h1, rfl⟩ := h
  exact ⟨f, h1, rfl⟩

def moreR (r : RSt) (l : List Fl) : RSt := { r with all := r.all ++ [(r.made, l)], made := r.made + 1 }
theorem keep_go {r : RSt} {l : List Fl} {n : Int} (h : r.all.length < 12) (hf : findL r.all n = some l) (hc : cellsOf r ≤ r.limit) : keepR r l = (moreR r l, r.made, 0) := by
  rw [keepR_ok h]
  · rfl
  · rw [cells_more hf]; omega
/-- What Shared asks. -/
structure SharedR (r : RSt) (n : Nat) (last : Nat) (l : List Fl) (p d : Str) : Prop where
  put : putR r n p d = (moreR r l, r.made, 0)
  cells : cellsOf (moreR r l) = cellsOf r
  same : sameR (moreR r l) n r.made [47] = (true, 0)
  gone : releaseR (moreR r l) r.made = ({ r with made := r.made + 1 }, 0)
  move : moveR { r with made := r.made + 1 } n p tMoved = ({ r with made := r.made + 1 }, 0, 7) ∨ moveR { r with made := r.made + 1 } n p tMoved = ({ r with made := r.made + 1 }, 0, 8) ∨
    ∃ l', moveR { r with made := r.made + 1 } n p tMoved = (moreR { r with made := r.made + 1 } l', r.made + 1, 0) ∧ ∃ r4, releaseR (moreR { r with made := r.made + 1 } l') last = (r4, 0) ∧ r4.made = r.made + 2 ∧ (last ≠ n → cellsOf r4 ≤ r4.limit → moveR r4 ((r.made + 1 : Nat) : Int) tMoved p = (moreR r4 l, r4.made, 0) ∧ sameR (moreR r4 l) n r4.made [47] = (true, 0))
theorem shared_pure {w0 w : World} {T : Bank} {r : RSt} {ns : List Nat} (h : KAt w0 w T r) (hp : Played r ns) {n last : Nat} (hn : n ∈ ns) (hl : last ∈ ns) {l : List Fl} (hf : findL r.all (n : Int) = some l) {x : Fl} (hx : x ∈ l) : SharedR r n last l x.1 x.2 := by
  obtain ⟨es, rfl, hw, h5, h20⟩ := find_wf h.ok h.ag hf
  obtain ⟨f, hfm, rfl⟩ := toF_mem hx
  obtain ⟨k0, hk0, _⟩ := findL_mem hf
  obtain ⟨L, hL, hg⟩ := hp.good _ hk0
  have hLe : filesE es = L := toF_inj (valid_files hw).1 hg.v hL
  rw [hLe] at hf hfm hx ⊢
  have hap : Apart L := hLe ▸ apart_files hw
  have hfo : FileOk (joinP f.1) := by rw [← hLe] at hfm; exact file_ok hw h5 hfm
  have hd : f.2.length ≤ 30 := by rw [← hLe] at hfm; exact (valid_files hw).2 f hfm
  obtain ⟨hnum, _, _, h11, hlt, hpw, _⟩ := hp.facts
  have hall : r.all.length ≤ 11 := by rw [← hnum] at h11; simpa using h11
  have hfr : ∀ y ∈ r.all, y.1 ≠ r.made := fun y hy e => by
    have := hlt y.1 (by rw [← hnum]; exact List.mem_map_of_mem hy)
    omega
  have hnm : n < r.made := hlt n hn
  have hlm : last < r.made := hlt last hl
  have hmore : findL (moreR r (toF L)).all (n : Int) = some (toF L) := by show findL (r.all ++ [(r.made, toF L)]) (n : Int) = _; rw [findL_old (by omega)]; exact hf
  refine ⟨?_, ?_, ?_, ?_, ?_⟩
  · rw [put_twice hf hg hap hfm hfo.path hd, keep_go (by omega) hf h.room]
  · exact cells_more hf r.made
  · exact same_root hmore (findL_app hfr)
  · have e : findL (moreR r (toF L)).all (r.made : Int) = some (toF L) := findL_app hfr
    unfold releaseR
    rw [e]
    simp only [moreR, List.filter_append]
    congr 2
    rw [List.filter_eq_self.2 (fun y hy => by have := hfr y hy; simp; omega)]
    simp
  · obtain ⟨L', h1, h2, h3, h4⟩ := move_one (r := { r with made := r.made + 1 }) hf hg.v hg.s hap hfm hfo.path moved_path.1 (moved_fresh hg).1 (moved_fresh hg).2
    rw [h1]
    rw [moved_path.2] at h4
    have hk := keep_grew (P := fun _ => True) { r with made := r.made + 1 } (toF L') trivial
    unfold keepR
    rw [if_neg (by show ¬ 12 ≤ r.all.length; omega)]
    by_cases hc : ({ r with made := r.made + 1 } : RSt).limit < cellsOf { ({ r with made := r.made + 1 } : RSt) with all := r.all ++ [(r.made + 1, toF L')] }
    · exact .inr (.inl (by rw [if_pos hc]))
    · refine .inr (.inr ⟨toF L', by rw [if_neg hc]; rfl, ?_⟩)
      obtain ⟨ll, hll⟩ := hp.find hl
      have hfl : findL (moreR { r with made := r.made + 1 } (toF L')).all (last : Int) = some ll := by show findL (r.all ++ [(r.made + 1, toF L')]) (last : Int) = _; rw [findL_old (by omega)]; exact hll
      refine ⟨{ moreR { r with made := r.made + 1 } (toF L') with all := (moreR { r with made := r.made + 1 } (toF L')).all.filter fun x => !((x.1 : Int) == (last : Int)) }, by unfold releaseR; rw [hfl], rfl, fun hne hc4 => ?_⟩
      have f1 : findL ((moreR { r with made := r.made + 1 } (toF L')).all.filter fun x => !((x.1 : Int) == (last : Int))) ((r.made + 1 : Nat) : Int) = some (toF L') := by
        rw [findL_gone (by omega)]
        exact findL_app (m := r.made + 1) fun y hy e => by
          have := hlt y.1 (by rw [← hnum]; exact List.mem_map_of_mem hy)
          omega
      have f2 : findL ((moreR { r with made := r.made + 1 } (toF L')).all.filter fun x => !((x.1 : Int) == (last : Int))) (n : Int) = some (toF L) := by
        rw [findL_gone (Ne.symm hne)]
        show findL (r.all ++ [(r.made + 1, toF L')]) (n : Int) = _
        rw [findL_old (by omega)]; exact hf
      have hlen : ((moreR { r with made := r.made + 1 } (toF L')).all.filter fun x => !((x.1 : Int) == (last : Int))).length < 12 := by
        obtain ⟨k1, hk1, ek1⟩ := findL_mem hfl
        have h6 : ((moreR { r with made := r.made + 1 } (toF L')).all.filter fun x => !((x.1 : Int) == (last : Int))).length < (moreR { r with made := r.made + 1 } (toF L')).all.length := by
          rw [List.length_filter_lt_length_iff_exists]
          exact ⟨_, hk1, by simp; omega⟩
        have h7 : (moreR { r with made := r.made + 1 } (toF L')).all.length = r.all.length + 1 := by simp [moreR]
        omega
      refine ⟨?_, ?_⟩
      · rw [move_back hg hap hfm hfo.path h2 h3 h4 f1, keep_go hlen f2 hc4]
      · refine same_root (l := toF L) ?_ ?_
        · show findL (_ ++ [(_, toF L)]) (n : Int) = _
          rw [findL_old (by show n ≠ r.made + 1 + 1; omega)]; exact f2
        · refine findL_app fun y hy e => ?_
          have h8 := (List.mem_filter.1 hy).1
          simp only [moreR, List.mem_append, List.mem_singleton] at h8
          rcases h8 with h8 | rfl
          · have := hlt y.1 (by rw [← hnum]; exact List.mem_map_of_mem h8)
            simp only [moreR] at e; omega
          · simp only [moreR] at e; omega

end Go.Proofs.YtdcbgfhkfmohiaaGreatDoor

/- Edited: what must be at a path behind an edit. No program. -/
namespace Go.Proofs.YtdcbgfhkfmohiaaGreatDoor
open Go.RowKit

def aK (o : KStep) : Str := if kN o.K 6 = 5 then pathK (kN (o.A.tmod 20) 84) else pathK (kN o.A 84)
def bK (o : KStep) : Str := if kN o.K 6 = 5 then pathK (kN (o.B.tmod 20) 84) else pathK (kN o.B 84)
def wantK (o : KStep) (l : List Fl) (p : Str) : Str × Bool :=
  if kN o.K 6 < 3 then wantPut l (aK o) (datK (kN o.B 5)) p else if kN o.K 6 = 3 then wantDel l (aK o) p else wantMove l (aK o) (bK o) p
theorem aK_ok (o : KStep) : isPathL (aK o) = true := by
  unfold aK
  split
  · exact (pathK_ok (kN_lt _ (by omega))).1
  · exact (pathK_ok (kN_lt _ (by omega))).1
theorem bK_ok (o : KStep) : isPathL (bK o) = true := by
  unfold bK
  split
  · exact (pathK_ok (kN_lt _ (by omega))).1
  · exact (pathK_ok (kN_lt _ (by omega))).1
theorem aK_short (o : KStep) : (aK o).length ≤ 11 := by unfold aK; split <;> exact pathK_short _
theorem bK_short (o : KStep) : (bK o).length ≤ 11 := by unfold bK; split <;> exact pathK_short _
theorem path_ne_root {p : Str} (h : isPathL p = true) : (p == [47]) = false := by
  cases hq : p == [47]
  · rfl
  · rw [beq_iff_eq] at hq
    subst hq
    exact absurd h (by decide)
theorem edited_pure {r : RSt} {n : Int} {L : List NF} (o : KStep) (hv : ValidN L) (hs : SortedN L) (hf : findL r.all n = some (toF L)) : Grew r (fun l' => ∀ p, isPathL p = true → valueK l' p = wantK o (toF L) p) (playR r n o) := by
  have hk := kN_lt o.K (n := 6) (by omega)
  have hfl : ∀ l, findL r.all n = some l → l = toF L := fun l hl => by rw [hf] at hl; simpa using hl.symm
  unfold playR
  by_cases h3 : kN o.K 6 < 3
  · rw [if_pos h3]
    refine (put_grew r n _ _).mono ?_
    rintro l' ⟨l, h1, h2, _, rfl⟩ p hp
    rw [hfl l h1, wantK, if_pos h3, aK, if_neg (by omega)]
    exact put_value hv hs h2 hp
  · rw [if_neg h3]
    by_cases h33 : kN o.K 6 = 3
    · rw [if_pos h33]
      refine (delete_grew r n _).mono ?_
      rintro l' ⟨l, h1, h2, rfl⟩ p hp
      rw [hfl l h1, wantK, if_neg h3, if_pos h33, aK, if_neg (by omega)]
      exact del_value hv hs h2 hp
    · rw [if_neg h33]
      by_cases h4 : kN o.K 6 = 4
      · rw [if_pos h4]
        refine (move_grew r n _ _).mono ?_
        rintro l' ⟨l, h1, h2, h5, h6, h7⟩ p hp
        rw [hfl l h1] at h6 h7
        rw [wantK, if_neg h3, if_neg h33, aK, if_neg (by omega), bK, if_neg (by omega)]
        exact move_value hv hs h2 h5 hp (free_names hv h5 h6) h7
      · rw [if_neg h4]
        refine (move_grew r n _ _).mono ?_
        rintro l' ⟨l, h1, h2, h5, h6, h7⟩ p hp
        rw [hfl l h1] at h6 h7
        rw [wantK, if_neg h3, if_neg h33, aK, if_pos (by omega), bK, if_pos (by omega)]
        exact move_value hv hs h2 h5 hp (free_names hv h5 h6) h7
/-- What Edited asks, of the store that was and the one that is. -/
structure EditedR (r : RSt) (n : Nat) (o : KStep) (l l' : List Fl) : Prop where
  val : ∀ p, isPathL p = true → valueK l' p = wantK o l p
  old : findL (r.all ++ [(r.made, l')]) (n : Int) = some l
  new : findL (r.all ++ [(r.made, l')]) (r.made : Int) = some l'
theorem edited_grew {w0 w : World} {T : Bank} {r : RSt} {ns : List Nat} (h : KAt w0 w T r) (hp : Played r ns) {n : Nat} (hn : n ∈ ns) {l : List Fl} (hf : findL r.all (n : Int) = some l) (o : KStep) : Grew r (EditedR r n o l) (playR r (n : Int) o) := by
  obtain ⟨es, rfl, hw, h5, h20⟩ := find_wf h.ok h.ag hf
  obtain ⟨hnum, _, _, h11, hlt, hpw, _⟩ := hp.facts
  refine (edited_pure o (valid_files hw).1 (sorted_filesE es hw) hf).mono fun l' hl' => ⟨hl', ?_, ?_⟩
  · rw [findL_old (by have := hlt n hn; omega)]; exact hf
  · exact findL_app fun y hy e => by
      have := hlt y.1 (by rw [← hnum]; exact List.mem_map_of_mem hy)
      omega
theorem files_paths {w0 w : World} {T : Bank} {r : RSt} (h : KAt w0 w T r) {n : Int} {l : List Fl} (hf : findL r.all n = some l) : l.length ≤ 20 ∧ ∀ f ∈ l, isPathL f.1 = true ∧ f.1.length ≤ 44 := by
  obtain ⟨es, rfl, hw, h5, h20⟩ := find_wf h.ok h.ag hf
  refine ⟨by unfold toF; rw [List.length_map]; exact h20, fun f hm => ?_⟩
  obtain ⟨g, hg, rfl⟩ := toF_mem hm
  exact ⟨(file_ok hw h5 hg).path, (file_ok hw h5 hg).short⟩

end Go.Proofs.YtdcbgfhkfmohiaaGreatDoor

/- Edited: what the walk stands on. -/
namespace Go.Proofs.YtdcbgfhkfmohiaaGreatDoor
open Go.RowKit
attribute [local go_sem] Oper.semAt_some

theorem StepsAt.below {w w' : World} {v : Value} {len : Nat} {O : Nat → KStep} (h : StepsAt w v len O) (hb : Below w.heap.size w w') : StepsAt w' v len O := by
  obtain ⟨ao, cap, rfl, hc⟩ := h
  refine ⟨ao, cap, rfl, fun i hi => ?_⟩
  obtain ⟨g, o, h1, h2, h3, h4, h5, h6⟩ := hc i hi
  have e : ∀ j, w'.cell? ⟨g, j, none⟩ = w.cell? ⟨g, j, none⟩ := fun j => hb.cell (p := ⟨g, j, none⟩) h2
  exact ⟨g, o, h1, Nat.lt_of_lt_of_le h2 hb.size, (e _).trans h3, (e _).trans h4, (e _).trans h5, (e _).trans h6⟩
theorem grew_cases {r : RSt} {P : List Fl → Prop} {oo : RSt × Nat × Nat} (h : Grew r P oo) : (∃ er, er ≠ 0 ∧ oo = (r, 0, er)) ∨ ∃ l', P l' ∧ oo = ({ r with all := r.all ++ [(r.made, l')], made := r.made + 1 }, r.made, 0) := by
  cases h with
  | no e he => exact .inl ⟨e, he, rfl⟩
  | yes l _ _ hp => exact .inr ⟨l, hp, rfl⟩
theorem files_ext {base N : Nat} {w w' : World} {T T' : Bank} {v : Value} {l : List Fl} (h : FilesK base w v l) (hX : Ext w.heap.size w T w' T') (hN : ∀ k, T.own k → k < N) (hb : N ≤ base) : FilesK base w' v l :=
  rowKept h fun k hk => hX.blk k (World.ownsRow.lt h k hk).2 fun ho => by have := hN k ho; have := (World.ownsRow.lt h k hk).1; omega
theorem files_later {base : Nat} {w w' : World} {v : Value} {l : List Fl} (h : FilesK base w v l) (hb : Below w.heap.size w w') : FilesK base w' v l := rowKept h fun k hk => hb.block k (World.ownsRow.lt h k hk).2

/-- Behind the edit: the check of every path. -/
def PathsOk (l l' : List Fl) (o : KStep) (c : Int) (xs : List Str) : Prop := xs = l.map (·.1) ++ l'.map (·.1) ++ [pathK (kN c 84), aK o, bK o]
theorem paths_ok {l l' : List Fl} {o : KStep} {c : Int} {xs : List Str} (h : PathsOk l l' o c xs) (h1 : ∀ f ∈ l, isPathL f.1 = true ∧ f.1.length ≤ 44) (h2 : ∀ f ∈ l', isPathL f.1 = true ∧ f.1.length ≤ 44) : ∀ p ∈ xs, isPathL p = true ∧ p.length ≤ 44 := by
  intro p hp
  unfold PathsOk at h
  rw [h] at hp
  simp only [List.mem_append, List.mem_map, List.mem_cons, List.not_mem_nil, or_false] at hp
  rcases hp with (⟨f, hf, rfl⟩ | ⟨f, hf, rfl⟩) | rfl | rfl | rfl
  · exact h1 f hf
  · exact h2 f hf
  · exact ⟨(pathK_ok (kN_lt c (by omega))).1, by have := pathK_short (kN c 84); omega⟩
  · exact ⟨aK_ok o, by have := aK_short o; omega⟩
  · exact ⟨bK_ok o, by have := bK_short o; omega⟩

/-- Some texts appended at once to a list of texts that the call itself made. -/
theorem wp_app_strs {W wr : World} {ops : Array Oper} {rest : List Oper} {o : Oper} {a : Act} {Q : Exit → Act → World → Prop} (hgd : o.guard = none) (s x : Operand) (ho : o.op = .call { callee := .builtin .append, args := #[s, x], argTypes := #[48, 48] })
    {base : Nat} {v : Value} {n : Nat} {xs : List Str} (hown : wr.ownsRow base 9 1 v n (xs.map SV)) (ys : List Str) (hW : Like W (wr.alloc (.cells (ys.map SV).toArray 9)))
    (hs : a.eval s = v) (hx : a.eval x = .slice (some ⟨wr.heap.size, 0, none⟩) ys.length ys.length) (hm : n + ys.length ≤ 1000000) (hbase : base ≤ wr.heap.size)
    (h : ∀ v' w', w'.ownsRow base 9 1 v' (n + ys.length) ((xs ++ ys).map SV) → Below base wr w' → wpList Tryz.prog ops Q rest (a.put o.dst v') w') : wpList Tryz.prog ops Q (o :: rest) a W := by
  obtain ⟨i0, hi, hz0, hz1, hz2⟩ := info_parts Tryz.infoStr
  have hz : (wr.alloc (.cells (ys.map SV).toArray 9)).heap.size = wr.heap.size + 1 := by simp
  refine wpList_append_own _ hgd s x 48 ho base 9 i0 (.string ⟨#[]⟩) 1 16 Tryz.underlying48 hi hz0 hz1 hz2 rfl (by decide) v n (xs.map SV) hs (hW.ownsRow (hown.alloc _)) ⟨wr.heap.size, 0, none⟩ ys.length ys.length (ys.map SV) hx (by simp) ?_ ?_ (by unfold maxLen; omega) (by omega) (by rw [hW.heap, hz]; omega) ?_
  · intro j u hj
    have hjl : j < (ys.map SV).length := (List.getElem?_eq_some_iff.1 hj).1
    have ha : (Addr.mk wr.heap.size 0 none).add j = ⟨wr.heap.size, j, none⟩ := by simp only [Addr.add]; split <;> simp_all
    rw [ha]; simp only [World.cell?, hW.heap, heap_alloc_new]; simpa using hj
  · intro u hu
    rw [List.mem_map] at hu
    obtain ⟨y, _, rfl⟩ := hu
    rfl
  · intro v' w' h1 h2 _
    refine h v' w' (by rw [List.map_append]; exact h1) ((((Below.refl _ _).alloc hbase _).trans (hW.below _)).grown h2 (by rw [hW.heap, hz]; omega) ?_)
    intro k hk
    exact (hown.lt k hk).1

end Go.Proofs.YtdcbgfhkfmohiaaGreatDoor
