/- Shared: the statement's lists in memory, and what it asks in pure words. -/
import Derived.Test.YtdcbgfhkfmohiaaGreatDoorKb31
namespace Go.Proofs.YtdcbgfhkfmohiaaGreatDoor
open Go.RowKit

/-- The list of numbers beside the store. -/
structure NumsAt (w0 w : World) (T : Bank) (u : Value) (ns : List Nat) : Prop where
  row : w.ownsRow w0.heap.size 3 1 u ns.length (intsV ns)
  out : ∀ k, u.ownBlock = some k → ¬ T.own k ∧ k ≠ T.rr
theorem NumsAt.edit {w0 w w' : World} {T T' : Bank} {u : Value} {ns : List Nat} (h : NumsAt w0 w T u ns) (h3 : Ext w.heap.size w T w' T') : NumsAt w0 w' T' u ns := by
  refine ⟨rowKept h.row fun j hj => (ext_free h3 (h.row.lt j hj).2 (h.out j hj).1).2, fun k hk => ?_⟩
  rw [show T'.rr = T.rr from h3.four.2.2.2.2]
  exact ⟨(ext_free h3 (h.row.lt k hk).2 (h.out k hk).1).1, (h.out k hk).2⟩
theorem NumsAt.below {w0 w w' : World} {T : Bank} {u : Value} {ns : List Nat} (h : NumsAt w0 w T u ns) (hb : Below w.heap.size w w') : NumsAt w0 w' T u ns :=
  ⟨rowKept h.row fun j hj => hb.block j (h.row.lt j hj).2, h.out⟩
/-- A block that is not the store's. -/
def FreeB (w : World) (T : Bank) (g : Nat) (o : Obj) : Prop := w.heap[g]? = some o ∧ ¬ T.own g
theorem FreeB.edit {w w' : World} {T T' : Bank} {g : Nat} {o : Obj} (h : FreeB w T g o) (h3 : Ext w.heap.size w T w' T') : FreeB w' T' g o := by
  have := ext_free h3 (Array.getElem?_eq_some_iff.1 h.1).1 h.2
  exact ⟨this.2.trans h.1, this.1⟩
theorem FreeB.below {w w' : World} {T : Bank} {g : Nat} {o : Obj} (h : FreeB w T g o) (hb : Below w.heap.size w w') : FreeB w' T g o := ⟨(hb.block g (Array.getElem?_eq_some_iff.1 h.1).1).trans h.1, h.2⟩
theorem Played.good {r : RSt} {ns : List Nat} (h : Played r ns) : ∀ x ∈ r.all, GoodL x.2 := by
  induction h with
  | start => exact good_start
  | @more r ns n o r' m h hl hn ho ih =>
    have hg := grew_good ih (play_good r n o ih)
    rw [ho] at hg
    exact hg
theorem KAt.cells {w0 w : World} {T : Bank} {r : RSt} (h : KAt w0 w T r) : Calls Tryz.prog 16 #[ptrV T.sb] w fun e w' => e = .returned (.int .i64 (cellsOf r : Nat)) ∧ Below w.heap.size w w' := by
  refine (bankCells_any T w h.ok.at' (by have := h.ok.room; omega)).mono ?_
  rintro e w' ⟨rfl, n, rfl⟩
  rw [Agree.cells h.ok h.ag]
  exact ⟨rfl, below_like rfl rfl rfl rfl⟩
theorem KAt.room {w0 w : World} {T : Bank} {r : RSt} (h : KAt w0 w T r) : cellsOf r ≤ r.limit := by
  rw [Agree.cells h.ok h.ag, ← h.ag.room]; exact h.ok.room.1
theorem toF_mem {L : List NF} {x : Fl} (h : x ∈ toF L) : ∃ f ∈ L, x = (joinP f.1, f.2) := by
  unfold toF at h
  rw [List.mem_map] at h
  obtain ⟨f, h1, rfl⟩ := h
  exact ⟨f, h1, rfl⟩

def moreR (r : RSt) (l : List Fl) : RSt := { r with all := r.all ++ [(r.made, l)], made := r.made + 1 }
theorem keep_go {r : RSt} {l : List Fl} {n : Int} (h : r.all.length < 12) (hf : findL r.all n = some l) (hc : cellsOf r ≤ r.limit) : keepR r l = (moreR r l, r.made, 0) := by
  rw [keepR_ok h]
  · rfl
  · rw [cells_more hf]; omega
/-- What Shared asks. -/
structure SharedR (r : RSt) (n : Nat) (last : Nat) (l : List Fl) (p d : Str) : Prop where
  put : putR r n p d = (moreR r l, r.made, 0)
  cells : cellsOf (moreR r l) = cellsOf r
  same : sameR (moreR r l) n r.made [47] = (true, 0)
  gone : releaseR (moreR r l) r.made = ({ r with made := r.made + 1 }, 0)
  move : moveR { r with made := r.made + 1 } n p tMoved = ({ r with made := r.made + 1 }, 0, 7) ∨ moveR { r with made := r.made + 1 } n p tMoved = ({ r with made := r.made + 1 }, 0, 8) ∨
    ∃ l', moveR { r with made := r.made + 1 } n p tMoved = (moreR { r with made := r.made + 1 } l', r.made + 1, 0) ∧ ∃ r4, releaseR (moreR { r with made := r.made + 1 } l') last = (r4, 0) ∧ r4.made = r.made + 2 ∧ (last ≠ n → cellsOf r4 ≤ r4.limit → moveR r4 ((r.made + 1 : Nat) : Int) tMoved p = (moreR r4 l, r4.made, 0) ∧ sameR (moreR r4 l) n r4.made [47] = (true, 0))
theorem shared_pure {w0 w : World} {T : Bank} {r : RSt} {ns : List Nat} (h : KAt w0 w T r) (hp : Played r ns) {n last : Nat} (hn : n ∈ ns) (hl : last ∈ ns) {l : List Fl} (hf : findL r.all (n : Int) = some l) {x : Fl} (hx : x ∈ l) : SharedR r n last l x.1 x.2 := by
  obtain ⟨es, rfl, hw, h5, h20⟩ := find_wf h.ok h.ag hf
  obtain ⟨f, hfm, rfl⟩ := toF_mem hx
  obtain ⟨k0, hk0, _⟩ := findL_mem hf
  obtain ⟨L, hL, hg⟩ := hp.good _ hk0
  have hLe : filesE es = L := toF_inj (valid_files hw).1 hg.v hL
  rw [hLe] at hf hfm hx ⊢
  have hap : Apart L := hLe ▸ apart_files hw
  have hfo : FileOk (joinP f.1) := by rw [← hLe] at hfm; exact file_ok hw h5 hfm
  have hd : f.2.length ≤ 30 := by rw [← hLe] at hfm; exact (valid_files hw).2 f hfm
  obtain ⟨hnum, _, _, h11, hlt, hpw, _⟩ := hp.facts
  have hall : r.all.length ≤ 11 := by rw [← hnum] at h11; simpa using h11
  have hfr : ∀ y ∈ r.all, y.1 ≠ r.made := fun y hy e => by
    have := hlt y.1 (by rw [← hnum]; exact List.mem_map_of_mem hy)
    omega
  have hnm : n < r.made := hlt n hn
  have hlm : last < r.made := hlt last hl
  have hmore : findL (moreR r (toF L)).all (n : Int) = some (toF L) := by show findL (r.all ++ [(r.made, toF L)]) (n : Int) = _; rw [findL_old (by omega)]; exact hf
  refine ⟨?_, ?_, ?_, ?_, ?_⟩
  · rw [put_twice hf hg hap hfm hfo.path hd, keep_go (by omega) hf h.room]
  · exact cells_more hf r.made
  · exact same_root hmore (findL_app hfr)
  · have e : findL (moreR r (toF L)).all (r.made : Int) = some (toF L) := findL_app hfr
    unfold releaseR
    rw [e]
    simp only [moreR, List.filter_append]
    congr 2
    rw [List.filter_eq_self.2 (fun y hy => by have := hfr y hy; simp; omega)]
    simp
  · obtain ⟨L', h1, h2, h3, h4⟩ := move_one (r := { r with made := r.made + 1 }) hf hg.v hg.s hap hfm hfo.path moved_path.1 (moved_fresh hg).1 (moved_fresh hg).2
    rw [h1]
    rw [moved_path.2] at h4
    have hk := keep_grew (P := fun _ => True) { r with made := r.made + 1 } (toF L') trivial
    unfold keepR
    rw [if_neg (by show ¬ 12 ≤ r.all.length; omega)]
    by_cases hc : ({ r with made := r.made + 1 } : RSt).limit < cellsOf { ({ r with made := r.made + 1 } : RSt) with all := r.all ++ [(r.made + 1, toF L')] }
    · exact .inr (.inl (by rw [if_pos hc]))
    · refine .inr (.inr ⟨toF L', by rw [if_neg hc]; rfl, ?_⟩)
      obtain ⟨ll, hll⟩ := hp.find hl
      have hfl : findL (moreR { r with made := r.made + 1 } (toF L')).all (last : Int) = some ll := by show findL (r.all ++ [(r.made + 1, toF L')]) (last : Int) = _; rw [findL_old (by omega)]; exact hll
      refine ⟨{ moreR { r with made := r.made + 1 } (toF L') with all := (moreR { r with made := r.made + 1 } (toF L')).all.filter fun x => !((x.1 : Int) == (last : Int)) }, by unfold releaseR; rw [hfl], rfl, fun hne hc4 => ?_⟩
      have f1 : findL ((moreR { r with made := r.made + 1 } (toF L')).all.filter fun x => !((x.1 : Int) == (last : Int))) ((r.made + 1 : Nat) : Int) = some (toF L') := by
        rw [findL_gone (by omega)]
        exact findL_app (m := r.made + 1) fun y hy e => by
          have := hlt y.1 (by rw [← hnum]; exact List.mem_map_of_mem hy)
          omega
      have f2 : findL ((moreR { r with made := r.made + 1 } (toF L')).all.filter fun x => !((x.1 : Int) == (last : Int))) (n : Int) = some (toF L) := by
        rw [findL_gone (Ne.symm hne)]
        show findL (r.all ++ [(r.made + 1, toF L')]) (n : Int) = _
        rw [findL_old (by omega)]; exact hf
      have hlen : ((moreR { r with made := r.made + 1 } (toF L')).all.filter fun x => !((x.1 : Int) == (last : Int))).length < 12 := by
        obtain ⟨k1, hk1, ek1⟩ := findL_mem hfl
        have h6 : ((moreR { r with made := r.made + 1 } (toF L')).all.filter fun x => !((x.1 : Int) == (last : Int))).length < (moreR { r with made := r.made + 1 } (toF L')).all.length := by
          rw [List.length_filter_lt_length_iff_exists]
          exact ⟨_, hk1, by simp; omega⟩
        have h7 : (moreR { r with made := r.made + 1 } (toF L')).all.length = r.all.length + 1 := by simp [moreR]
        omega
      refine ⟨?_, ?_⟩
      · rw [move_back hg hap hfm hfo.path h2 h3 h4 f1, keep_go hlen f2 hc4]
      · refine same_root (l := toF L) ?_ ?_
        · show findL (_ ++ [(_, toF L)]) (n : Int) = _
          rw [findL_old (by show n ≠ r.made + 1 + 1; omega)]; exact f2
        · refine findL_app fun y hy e => ?_
          have h8 := (List.mem_filter.1 hy).1
          simp only [moreR, List.mem_append, List.mem_singleton] at h8
          rcases h8 with h8 | rfl
          · have := hlt y.1 (by rw [← hnum]; exact List.mem_map_of_mem h8)
            simp only [moreR] at e; omega
          · simp only [moreR] at e; omega

end Go.Proofs.YtdcbgfhkfmohiaaGreatDoor

/- Shared: the walk. -/
namespace Go.Proofs.YtdcbgfhkfmohiaaGreatDoor
open Go.RowKit
attribute [local go_sem] Oper.semAt_some

set_option maxHeartbeats 32000000 in
set_option maxRecDepth 50000 in
theorem kShared_any (v : Value) (len : Nat) (O : Nat → KStep) (ca cb : Int) (w : World) (h : StepsAt w v len O) (hok : ∀ i, i < len → (O i).ok) (hlen : len ≤ 2000000000000000) (ha : kIn ca) (hb : kIn cb) (hmx : MaxOk w) :
    Calls Tryz.prog 11 #[v, .int .i64 ca, .int .i64 cb] w fun e w' => KBool w true e w' := by
  have C1 := kPlayed_any v len O w h hok hlen hmx
  have HMX : Hid _ := hmx
  clear h hok hmx
  go_enter Tryz.func11, Tryz.ntmps11
  go_wp2_with fail
  refine C1.mono ?_
  rintro e w1 ⟨T, r, u, ns, rfl, hP⟩
  have hf := hP.pl.facts
  have hpos : 0 < ns.length := List.length_pos_iff.2 hf.2.2.1
  have hl11 := hf.2.2.2.1
  obtain ⟨g, cp, rfl, hg, hgb, hcp, hcm, hcell⟩ := ints_cells hP.row hf.2.2.1
  have CK := kPick_any ca ns.length w1 ha hpos (by omega)
  have hq := kN_lt ca hpos
  generalize kN ca ns.length = q at *
  have hqi : (q : Int) < (ns.length : Int) := by omega
  have da : w1.cell? ⟨g, q, none⟩ = some (.int .i64 (ns[q] : Int)) := hcell q hq
  have HP : Hid _ := hP
  obtain ⟨l, hl⟩ := hP.pl.find (List.getElem_mem hq)
  have HN : Hid (ns[q] ∈ ns) := List.getElem_mem hq
  have CU : Hid (Calls Tryz.prog 19 #[ptrV T.sb, .int .i64 (ns[q] : Int)] w1 fun e w' => KDump w1 (some l) e w') := by
    have := kDump_any T r (ns[q] : Int) w1 hP.st.ok hP.st.ag (hP.st.max HMX.out)
    rw [hl] at this
    exact this
  have HFL : Hid _ := hl
  clear hP hf hcell C1 hl
  generalize ns[q] = n at *
  unfold maxLen at hcm
  go_wp2_with fail
  refine CK.mono ?_
  rintro e w1 ⟨rfl, rfl⟩
  clear CK
  go_wp2_with fail
  refine Calls.mono (show Calls _ _ _ _ _ from CU.out) ?_
  rintro e w2 ⟨hb2, v2, rfl, hv2⟩
  have HK2 : Hid (KAt w w2 T r) := HP.out.st.below hb2
  have HN2 : Hid (NumsAt w w2 T (.slice (some ⟨g, 0, none⟩) ns.length cp) ns) := NumsAt.below ⟨HP.out.row, HP.out.out⟩ hb2
  have CC : Hid _ := HK2.out.cells
  have HV2 : Hid _ := hv2
  obtain ⟨ao2, cap2, rfl⟩ := row_form hv2
  have HPL : Hid _ := HP.out.pl
  clear hb2 hv2 CU HP da
  go_wp2_with fail
  refine Calls.mono (show Calls _ _ _ _ _ from CC.out) ?_
  rintro e w3 ⟨rfl, hb3⟩
  have HK3 : Hid (KAt w w3 T r) := HK2.out.below hb3
  have HN3 : Hid (NumsAt w w3 T (.slice (some ⟨g, 0, none⟩) ns.length cp) ns) := HN2.out.below hb3
  have HV3 : Hid (FilesK w1.heap.size w3 (.slice ao2 l.length cap2) l) := rowKept HV2.out fun k hk => hb3.block k (World.ownsRow.lt HV2.out k hk).2
  clear hb3 CC HK2 HN2 HV2
  by_cases h0 : l.length = 0
  · have R : Hid (KBool w true (.returned (.bool true)) w3) := ⟨rfl, HK3.out.base⟩
    have h0i : (l.length : Int) = 0 := by omega
    clear HK3 HN3 HV3 HFL
    generalize l.length = ll at *
    subst h0
    go_wp2
    go_ret
    exact R.out
  · have h0i : ¬ (l.length : Int) = 0 := by omega
    rcases filesK_cells HV3.out with ⟨_, h1⟩ | ⟨gf, cf, ef, hgf, hcf, hmf, hpf, hdf⟩
    · exact absurd (by rw [h1]; rfl) h0
    simp only [Value.slice.injEq] at ef
    obtain ⟨rfl, -, rfl⟩ := ef
    have hl20 : l.length ≤ 20 := by
      obtain ⟨es, rfl, _, _, h20⟩ := find_wf HK3.out.ok HK3.out.ag HFL.out
      unfold toF; rw [List.length_map]; exact h20
    have CK := kPick_any cb l.length w3 hb (by omega) (by omega)
    have hq2 := kN_lt cb (show 0 < l.length by omega)
    generalize kN cb l.length = q2 at *
    have hq2i : (q2 : Int) < (l.length : Int) := by omega
    have c1 := hpf q2 hq2
    have c2 := hdf q2 hq2
    obtain ⟨lm, hlm⟩ : ∃ lm, ns.length = lm + 1 := ⟨ns.length - 1, by omega⟩
    have elm : (ns.length : Int) - 1 = (lm : Int) := by omega
    have hlmi : (lm : Int) < (ns.length : Int) := by omega
    obtain ⟨last, hlast⟩ : ∃ last, ns[lm]'(by omega) = last := ⟨_, rfl⟩
    have HLA : Hid (last ∈ ns) := by rw [Hid, ← hlast]; exact List.getElem_mem _
    have HCL : Hid (∀ (W : World) (T : Bank), NumsAt w W T (.slice (some ⟨g, 0, none⟩) ns.length cp) ns → W.cell? ⟨g, lm, none⟩ = some (.int .i64 (last : Int))) := fun W T h => by
      rw [h.row.cellAt lm (by omega), intsV, List.getElem?_map, List.getElem?_eq_getElem (by omega), ← hlast]; rfl
    have HSR : Hid (SharedR r n last l l[q2].1 l[q2].2) := shared_pure HK3.out HPL.out HN.out HLA.out HFL.out (List.getElem_mem hq2)
    have HSH : Hid (l[q2].1.length ≤ 44 ∧ l[q2].2.length ≤ 30) := by
      obtain ⟨es, rfl, hw, h5, _⟩ := find_wf HK3.out.ok HK3.out.ag HFL.out
      obtain ⟨f, hfm, e⟩ := toF_mem (List.getElem_mem hq2)
      rw [Hid, e]
      exact ⟨(file_ok hw h5 hfm).short, (valid_files hw).2 f hfm⟩
    have HMD : Hid (r.made ≤ 12) := by have := HPL.out.facts.2.2.2.2.2.2; rw [Hid]; omega
    have HGS : Hid (gf < w3.heap.size) := hgf
    clear hpf hdf hlast
    generalize l[q2].1 = pp at *
    generalize l[q2].2 = dd at *
    obtain ⟨w4, hw4⟩ : ∃ w4, w4 = w3.alloc (.cells #[SV pp, SV dd] 50) := ⟨_, rfl⟩
    have hb4 : Below w3.heap.size w3 w4 := by rw [hw4]; exact (Below.refl _ _).alloc (Nat.le_refl _) _
    have hn4 : w4.heap[w3.heap.size]? = some (.cells #[SV pp, SV dd] 50 (0, 0)) := by rw [hw4]; exact heap_alloc_new _ _
    have HK4 : Hid (KAt w w4 T r) := HK3.out.below hb4
    have HN4 : Hid (NumsAt w w4 T (.slice (some ⟨g, 0, none⟩) ns.length cp) ns) := HN3.out.below hb4
    have HF4 : Hid (FreeB w4 T w3.heap.size (.cells #[SV pp, SV dd] 50 (0, 0))) := ⟨hn4, fun ho => by have := HK3.out.lt ho; omega⟩
    have x1 : w4.cell? ⟨w3.heap.size, 0, none⟩ = some (SV pp) := (blk_cell hn4 0).trans rfl
    have x2 : w4.cell? ⟨w3.heap.size, 1, none⟩ = some (SV dd) := (blk_cell hn4 1).trans rfl
    have hsh := HSH.out
    have CP : Hid (Calls Tryz.prog 38 #[ptrV T.sb, .int .i64 (n : Int), SV pp, SV dd] w4 fun e w' => StepOut w4.heap.size w4 T (moreR r l, r.made, 0) e w') := by
      have := storePut_any T r (n : Int) pp dd w4 HK4.out.ok HK4.out.ag (by rw [HK4.out.ag.made]; have := HMD.out; omega) (by unfold maxLen; omega) (by unfold maxLen; omega)
      rw [HSR.out.put] at this
      exact this
    have HW4 : Hid _ := hw4
    clear hw4 hb4 hn4 hsh HV3 HK3 HN3
    go_wp2_with fail
    refine CK.mono ?_
    rintro e w3 ⟨rfl, rfl⟩
    go_wp2_with fail
    rw [← HW4.out]
    refine Calls.mono (show Calls _ _ _ _ _ from CP.out) ?_
    rintro e w5 ⟨T5, rfl, h1, h2, h3⟩
    have HK5 : Hid (KAt w w5 T5 (moreR r l)) := HK4.out.edit h1 h2 h3
    have HN5 : Hid (NumsAt w w5 T5 (.slice (some ⟨g, 0, none⟩) ns.length cp) ns) := HN4.out.edit h3
    have HF5 : Hid (FreeB w5 T5 w3.heap.size (.cells #[SV pp, SV dd] 50 (0, 0))) := HF4.out.edit h3
    have esb : T.sb = T5.sb := h3.four.1.symm
    rw [esb]
    have CC : Hid (Calls Tryz.prog 16 #[ptrV T5.sb] w5 fun e w' => e = .returned (.int .i64 (cellsOf r : Nat)) ∧ Below w5.heap.size w5 w') := by
      have := HK5.out.cells
      rw [HSR.out.cells] at this
      exact this
    have hgx := hgf
    clear h1 h2 h3 CP HK4 HN4 HF4 x1 x2 HW4 CK c1 c2 esb T
    generalize cellsOf r = cc at *
    generalize hmd : r.made = md at *
    go_wp2_with fail
    refine Calls.mono (show Calls _ _ _ _ _ from CC.out) ?_
    rintro e w6 ⟨rfl, hb6⟩
    have HK6 : Hid (KAt w w6 T5 (moreR r l)) := HK5.out.below hb6
    have HN6 : Hid (NumsAt w w6 T5 (.slice (some ⟨g, 0, none⟩) ns.length cp) ns) := HN5.out.below hb6
    have HF6 : Hid (FreeB w6 T5 w3.heap.size (.cells #[SV pp, SV dd] 50 (0, 0))) := HF5.out.below hb6
    have CS : Hid (Calls Tryz.prog 29 #[ptrV T5.sb, .int .i64 (n : Int), .int .i64 (md : Int), .string ⟨#[47]⟩] w6 fun e w' => SameOut w6 (true, 0) e w') := by
      have := storeSame_any T5 (moreR r l) (n : Int) (md : Int) [47] w6 HK6.out.ok HK6.out.ag (by decide)
      have e := HSR.out.same
      rw [hmd] at e
      rw [e] at this
      exact this
    clear hb6 CC HK5 HN5 HF5
    go_wp2_with fail
    refine Calls.mono (show Calls _ _ _ _ _ from CS.out) ?_
    rintro e w7 ⟨rfl, hb7⟩
    have HK7 : Hid (KAt w w7 T5 (moreR r l)) := HK6.out.below hb7
    have HN7 : Hid (NumsAt w w7 T5 (.slice (some ⟨g, 0, none⟩) ns.length cp) ns) := HN6.out.below hb7
    have HF7 : Hid (FreeB w7 T5 w3.heap.size (.cells #[SV pp, SV dd] 50 (0, 0))) := HF6.out.below hb7
    have CR : Hid (Calls Tryz.prog 20 #[ptrV T5.sb, .int .i64 (md : Int)] w7 fun e w' => StepOut1 w7.heap.size w7 T5 ({ r with made := r.made + 1 }, 0) e w') := by
      have := storeRelease_any T5 (moreR r l) (md : Int) w7 HK7.out.ok HK7.out.ag
      have e := HSR.out.gone
      rw [hmd] at e
      rw [e] at this
      rw [hmd]
      exact this
    clear hb7 CS HK6 HN6 HF6
    go_wp2_with fail
    refine Calls.mono (show Calls _ _ _ _ _ from CR.out) ?_
    rintro e w8 ⟨T8, rfl, h1, h2, h3⟩
    have HK8 : Hid (KAt w w8 T8 { r with made := r.made + 1 }) := HK7.out.edit h1 h2 h3
    have HN8 : Hid (NumsAt w w8 T8 (.slice (some ⟨g, 0, none⟩) ns.length cp) ns) := HN7.out.edit h3
    have HF8 : Hid (FreeB w8 T8 w3.heap.size (.cells #[SV pp, SV dd] 50 (0, 0))) := HF7.out.edit h3
    have esb : T5.sb = T8.sb := h3.four.1.symm
    rw [esb]
    have x1 : w8.cell? ⟨w3.heap.size, 0, none⟩ = some (SV pp) := (blk_cell HF8.out.1 0).trans rfl
    have CM : Hid (Calls Tryz.prog 39 #[ptrV T8.sb, .int .i64 (n : Int), SV pp, .string ⟨#[109, 111, 118, 101, 100]⟩] w8 fun e w' => StepOut w8.heap.size w8 T8 (moveR { r with made := r.made + 1 } (n : Int) pp tMoved) e w') :=
      storeMove_any T8 _ (n : Int) pp tMoved w8 HK8.out.ok HK8.out.ag (by rw [HK8.out.ag.made]; have := HMD.out; show r.made + 1 < _; omega) (by have := HSH.out; unfold maxLen; omega) (by decide)
    clear h1 h2 h3 CR HK7 HN7 HF7 esb
    generalize hR2 : ({ r with made := r.made + 1 } : RSt) = R2 at *
    have HM := HSR.out.move
    rw [hR2] at HM
    rcases HM with e7 | e8 | ⟨l', e0, r4, e4, emd, hrest⟩
    · rw [e7] at CM
      go_wp2_with fail
      refine Calls.mono (show Calls _ _ _ _ _ from CM.out) ?_
      rintro e w9 ⟨T9, rfl, h1, h2, h3⟩
      have R9 : Hid (KBool w true (.returned (.bool true)) w9) := ⟨rfl, (HK8.out.edit h1 h2 h3).base⟩
      clear h1 h2 h3 CM x1
      go_wp2
      go_ret
      exact R9.out
    · rw [e8] at CM
      go_wp2_with fail
      refine Calls.mono (show Calls _ _ _ _ _ from CM.out) ?_
      rintro e w9 ⟨T9, rfl, h1, h2, h3⟩
      have R9 : Hid (KBool w true (.returned (.bool true)) w9) := ⟨rfl, (HK8.out.edit h1 h2 h3).base⟩
      clear h1 h2 h3 CM x1
      go_wp2
      go_ret
      exact R9.out
    · rw [e0] at CM
      go_wp2_with fail
      refine Calls.mono (show Calls _ _ _ _ _ from CM.out) ?_
      rintro e w9 ⟨T9, rfl, h1, h2, h3⟩
      have HK9 : Hid (KAt w w9 T9 (moreR R2 l')) := HK8.out.edit h1 h2 h3
      have HN9 : Hid (NumsAt w w9 T9 (.slice (some ⟨g, 0, none⟩) ns.length cp) ns) := HN8.out.edit h3
      have HF9 : Hid (FreeB w9 T9 w3.heap.size (.cells #[SV pp, SV dd] 50 (0, 0))) := HF8.out.edit h3
      have esb : T8.sb = T9.sb := h3.four.1.symm
      rw [esb]
      have y1 := HCL.out w9 T9 HN9.out
      have CR : Hid (Calls Tryz.prog 20 #[ptrV T9.sb, .int .i64 (last : Int)] w9 fun e w' => StepOut1 w9.heap.size w9 T9 (r4, 0) e w') := by
        have := storeRelease_any T9 (moreR R2 l') (last : Int) w9 HK9.out.ok HK9.out.ag
        rw [e4] at this
        exact this
      have hg9 : g < w9.heap.size := World.block_lt_of_cell? w9 _ y1
      clear h1 h2 h3 CM HK8 HN8 HF8 esb x1 e0
      go_wp2_with fail
      refine Calls.mono (show Calls _ _ _ _ _ from CR.out) ?_
      rintro e w10 ⟨T10, rfl, h1, h2, h3⟩
      have HK10 : Hid (KAt w w10 T10 r4) := HK9.out.edit h1 h2 h3
      have HN10 : Hid (NumsAt w w10 T10 (.slice (some ⟨g, 0, none⟩) ns.length cp) ns) := HN9.out.edit h3
      have HF10 : Hid (FreeB w10 T10 w3.heap.size (.cells #[SV pp, SV dd] 50 (0, 0))) := HF9.out.edit h3
      have esb : T9.sb = T10.sb := h3.four.1.symm
      rw [esb]
      have y2 := HCL.out w10 T10 HN10.out
      have hg10 : g < w10.heap.size := World.block_lt_of_cell? w10 _ y2
      clear h1 h2 h3 CR HK9 HN9 HF9 esb y1 e4 hg9
      by_cases hln : last = n
      · have R10 : Hid (KBool w true (.returned (.bool true)) w10) := ⟨rfl, HK10.out.base⟩
        subst hln
        clear hrest
        go_wp2
        go_ret
        exact R10.out
      · have hlni : ¬ (last : Int) = (n : Int) := by omega
        obtain ⟨em, es⟩ := hrest hln HK10.out.room
        have z1 : w10.cell? ⟨w3.heap.size, 0, none⟩ = some (SV pp) := (blk_cell HF10.out.1 0).trans rfl
        have CM : Hid (Calls Tryz.prog 39 #[ptrV T10.sb, .int .i64 ((md : Int) + 1), .string ⟨#[109, 111, 118, 101, 100]⟩, SV pp] w10 fun e w' => StepOut w10.heap.size w10 T10 (moreR r4 l, r4.made, 0) e w') := by
          have := storeMove_any T10 r4 ((md + 1 : Nat) : Int) tMoved pp w10 HK10.out.ok HK10.out.ag (by rw [HK10.out.ag.made, emd]; have := HMD.out; omega) (by decide) (by have := HSH.out; unfold maxLen; omega)
          rw [hmd] at em
          rw [em, show ((md + 1 : Nat) : Int) = (md : Int) + 1 from by omega] at this
          exact this
        go_wp2_with fail
        refine Calls.mono (show Calls _ _ _ _ _ from CM.out) ?_
        rintro e w11 ⟨T11, rfl, h1, h2, h3⟩
        have HK11 : Hid (KAt w w11 T11 (moreR r4 l)) := HK10.out.edit h1 h2 h3
        have esb : T10.sb = T11.sb := h3.four.1.symm
        rw [esb]
        have CS : Hid (Calls Tryz.prog 29 #[ptrV T11.sb, .int .i64 (n : Int), .int .i64 (r4.made : Int), .string ⟨#[47]⟩] w11 fun e w' => SameOut w11 (true, 0) e w') := by
          have := storeSame_any T11 (moreR r4 l) (n : Int) (r4.made : Int) [47] w11 HK11.out.ok HK11.out.ag (by decide)
          rw [es] at this
          exact this
        clear h1 h2 h3 CM HK10 HN10 HF10 esb z1 em es y2 hg10 hrest
        clear emd
        generalize r4.made = md4 at *
        clear hR2 hmd
        go_wp2_with fail
        refine Calls.mono (show Calls _ _ _ _ _ from CS.out) ?_
        rintro e w12 ⟨rfl, hb12⟩
        have R12 : Hid (KBool w true (.returned (.bool true)) w12) := ⟨rfl, (HK11.out.below hb12).base⟩
        clear hb12 CS
        go_wp2
        go_ret
        exact R12.out

end Go.Proofs.YtdcbgfhkfmohiaaGreatDoor
