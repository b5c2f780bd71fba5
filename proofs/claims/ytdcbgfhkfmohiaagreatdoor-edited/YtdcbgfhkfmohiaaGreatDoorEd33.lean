/- Edited: the walk. -/
import Derived.Test.YtdcbgfhkfmohiaaGreatDoorEd32
import Derived.Deep.DeepCutAuto
namespace Go.Proofs.YtdcbgfhkfmohiaaGreatDoor
open Go.RowKit
attribute [local go_sem] Oper.semAt_some

set_option maxHeartbeats 32000000 in
set_option maxRecDepth 50000 in
theorem kEdited_any (v : Value) (len : Nat) (O : Nat → KStep) (o : KStep) (c : Int) (w : World) (h : StepsAt w v len O) (hok : ∀ i, i < len → (O i).ok) (hlen : len ≤ 2000000000000000) (ho : o.ok) (hc : kIn c) (hmx : MaxOk w) :
    Calls Tryz.prog 7 #[v, o.val, .int .i64 c] w fun e w' => KBool w true e w' := by
  unfold KStep.val
  obtain ⟨wb, hwb⟩ : ∃ wb, wb = w.alloc (.cells #[.int .i64 o.K, .int .i64 o.From, .int .i64 o.A, .int .i64 o.B] 35) := ⟨_, rfl⟩
  have hbb : Below w.heap.size w wb := by rw [hwb]; exact (Below.refl _ _).alloc (Nat.le_refl _) _
  have hnb : wb.heap[w.heap.size]? = some (.cells #[.int .i64 o.K, .int .i64 o.From, .int .i64 o.A, .int .i64 o.B] 35 (0, 0)) := by rw [hwb]; exact heap_alloc_new _ _
  have hsb : w.heap.size < wb.heap.size := (Array.getElem?_eq_some_iff.1 hnb).1
  have C1 := kPlayed_any v len O wb (h.below hbb) hok hlen (hmx.later hbb)
  have HMX : Hid (MaxOk wb) := hmx.later hbb
  have BX : Hid (∀ W, Below wb.heap.size wb W → W.cell? ⟨w.heap.size, 0, none⟩ = some (.int .i64 o.K) ∧ W.cell? ⟨w.heap.size, 1, none⟩ = some (.int .i64 o.From) ∧ W.cell? ⟨w.heap.size, 2, none⟩ = some (.int .i64 o.A) ∧ W.cell? ⟨w.heap.size, 3, none⟩ = some (.int .i64 o.B)) := fun W hW => by
    have e := (hW.block _ hsb).trans hnb
    exact ⟨(blk_cell e 0).trans rfl, (blk_cell e 1).trans rfl, (blk_cell e 2).trans rfl, (blk_cell e 3).trans rfl⟩
  have HBB : Hid _ := hbb
  have HWB : Hid _ := hwb
  have HO : Hid _ := ho
  clear h hok hmx hwb hbb hnb ho
  go_enter Tryz.func7, Tryz.ntmps7
  go_wp2_with fail
  rw [← HWB.out]
  refine C1.mono ?_
  rintro e w1 ⟨T, r, u, ns, rfl, hP⟩
  have hf := hP.pl.facts
  have hpos : 0 < ns.length := List.length_pos_iff.2 hf.2.2.1
  have hl11 := hf.2.2.2.1
  obtain ⟨g, cp, rfl, hg, hgb, hcp, hcm, hcell⟩ := ints_cells hP.row hf.2.2.1
  obtain ⟨b0, b1, b2, b3⟩ := BX.out w1 hP.st.base
  have hsz1 : w.heap.size < w1.heap.size := Nat.lt_of_lt_of_le hsb hP.st.base.size
  have CK := kPick_any o.From ns.length w1 HO.out.2.1 hpos (by omega)
  have hq := kN_lt o.From hpos
  generalize kN o.From ns.length = q at *
  have hqi : (q : Int) < (ns.length : Int) := by omega
  have da : w1.cell? ⟨g, q, none⟩ = some (.int .i64 (ns[q] : Int)) := hcell q hq
  have HP : Hid _ := hP
  obtain ⟨l, hl⟩ := hP.pl.find (List.getElem_mem hq)
  have HN : Hid (ns[q] ∈ ns) := List.getElem_mem hq
  have CU : Hid (Calls Tryz.prog 19 #[ptrV T.sb, .int .i64 (ns[q] : Int)] w1 fun e w' => KDump w1 (some l) e w') := by
    have := kDump_any T r (ns[q] : Int) w1 hP.st.ok hP.st.ag (hP.st.max HMX.out)
    rw [hl] at this
    exact this
  have HFL : Hid _ := hl
  have HMD : Hid (r.made ≤ 12 ∧ ∀ n ∈ ns, n < r.made) := ⟨by have := hf.2.2.2.2.2.2; omega, hf.2.2.2.2.1⟩
  have HTL : Hid (∀ k, T.own k → k < w1.heap.size) := fun k hk => hP.st.lt hk
  clear hP hf hcell C1 hl HWB
  generalize ns[q] = n at *
  unfold maxLen at hcm
  go_wp2_with fail
  refine CK.mono ?_
  rintro e w1 ⟨rfl, rfl⟩
  clear CK
  go_wp2_with fail
  refine Calls.mono (show Calls _ _ _ _ _ from CU.out) ?_
  rintro e w2 ⟨hb2, v2, rfl, hv2⟩
  have HK2 : Hid (KAt wb w2 T r) := HP.out.st.below hb2
  have HN2 : Hid (NumsAt wb w2 T (.slice (some ⟨g, 0, none⟩) ns.length cp) ns) := NumsAt.below ⟨HP.out.row, HP.out.out⟩ hb2
  have CC : Hid _ := HK2.out.cells
  have HV2 := Hid.mk' hv2
  obtain ⟨ao2, cap2, rfl⟩ := row_form hv2
  have HPL : Hid _ := HP.out.pl
  clear hb2 hv2 CU HP da b0 b1 b2 b3
  go_wp2_with fail
  refine Calls.mono (show Calls _ _ _ _ _ from CC.out) ?_
  rintro e w3 ⟨rfl, hb3⟩
  have HK3 : Hid (KAt wb w3 T r) := HK2.out.below hb3
  have HN3 : Hid (NumsAt wb w3 T (.slice (some ⟨g, 0, none⟩) ns.length cp) ns) := HN2.out.below hb3
  have HV3 : Hid (FilesK w1.heap.size w3 (.slice ao2 l.length cap2) l) := files_later HV2.out hb3
  obtain ⟨b0, b1, b2, b3⟩ := BX.out w3 HK3.out.base
  have hsz3 : w.heap.size < w3.heap.size := Nat.lt_of_lt_of_le hsb HK3.out.base.size
  have CE : Hid (Calls Tryz.prog 18 #[ptrV T.sb, .int .i64 (n : Int), o.val] w3 fun e w' => StepOut w3.heap.size w3 T (playR r (n : Int) o) e w') := kPlay_any T r (n : Int) o w3 HK3.out.ok HK3.out.ag (by rw [HK3.out.ag.made]; have := HMD.out.1; omega) HO.out
  unfold KStep.val at CE
  have HFP := Hid.mk' (files_paths HK3.out HFL.out)
  have hcase := grew_cases (edited_grew HK3.out HPL.out HN.out HFL.out o)
  clear hb3 CC HK2 HN2 HV2
  rcases hcase with ⟨er, her, hpe⟩ | ⟨l', hER, hpe⟩
  · as_aux_lemma =>
      rw [hpe] at CE
      have heri : ¬ (er : Int) = 0 := by omega
      clear hpe
      generalize hcc : cellsOf r = cc at *
      go_wp2_with fail
      refine Calls.mono (show Calls _ _ _ _ _ from CE.out) ?_
      rintro e w4 ⟨T4, rfl, h1, h2, h3⟩
      have HK4 : Hid (KAt wb w4 T4 r) := HK3.out.edit h1 h2 h3
      have HV4 : Hid (FilesK w1.heap.size w4 (.slice ao2 l.length cap2) l) := files_ext HV3.out h3 HTL.out (Nat.le_refl _)
      have esb : T.sb = T4.sb := h3.four.1.symm
      rw [esb]
      have CU : Hid (Calls Tryz.prog 19 #[ptrV T4.sb, .int .i64 (n : Int)] w4 fun e w' => KDump w4 (some l) e w') := by
        have := kDump_any T4 r (n : Int) w4 HK4.out.ok HK4.out.ag (HK4.out.max HMX.out)
        rw [HFL.out] at this
        exact this
      clear h1 h2 h3 CE esb HTL HK3 HN3 HV3 b0 b1 b2 b3
      go_wp2_with fail
      refine Calls.mono (show Calls _ _ _ _ _ from CU.out) ?_
      rintro e w5 ⟨hb5, v5, rfl, hv5⟩
      have HK5 : Hid (KAt wb w5 T4 r) := HK4.out.below hb5
      have CS : Hid _ := kSame_any w1.heap.size w4.heap.size l l (.slice ao2 l.length cap2) v5 w5 (files_later HV4.out hb5) hv5
      obtain ⟨ao5, cap5, rfl⟩ := row_form hv5
      clear hb5 hv5 CU HK4 HV4
      go_wp2_with fail
      refine Calls.mono (show Calls _ _ _ _ _ from CS.out) ?_
      rintro e w6 ⟨rfl, hb6⟩
      have HK6 : Hid (KAt wb w6 T4 r) := HK5.out.below hb6
      have CC := HK6.out.cells
      rw [hcc] at CC
      have HCC : Hid _ := CC
      clear hb6 CS HK5 CC
      simp only [decide_true]
      go_wp2_with fail
      refine Calls.mono (show Calls _ _ _ _ _ from HCC.out) ?_
      rintro e w7 ⟨rfl, hb7⟩
      have R7 : Hid (KBool w true (.returned (.bool true)) w7) := ⟨rfl, HBB.out.trans (((HK6.out.below hb7).base).mono HBB.out.size)⟩
      clear hb7 HCC
      go_wp2
      go_ret
      exact R7.out
  · rw [hpe] at CE
    clear hpe
    generalize hcc : cellsOf r = cc at *
    go_wp2_with fail
    refine Calls.mono (show Calls _ _ _ _ _ from CE.out) ?_
    rintro e w4 ⟨T4, rfl, h1, h2, h3⟩
    have HK4 := Hid.mk' (HK3.out.edit h1 h2 h3)
    have HN4 : Hid (NumsAt wb w4 T4 (.slice (some ⟨g, 0, none⟩) ns.length cp) ns) := HN3.out.edit h3
    have HV4 : Hid (FilesK w1.heap.size w4 (.slice ao2 l.length cap2) l) := files_ext HV3.out h3 HTL.out (Nat.le_refl _)
    have esb : T.sb = T4.sb := h3.four.1.symm
    rw [esb]
    have CU : Hid (Calls Tryz.prog 19 #[ptrV T4.sb, .int .i64 (n : Int)] w4 fun e w' => KDump w4 (some l) e w') := by
      have := kDump_any T4 _ (n : Int) w4 HK4.out.ok HK4.out.ag (HK4.out.max HMX.out)
      rw [hER.old] at this
      exact this
    have HER : Hid _ := hER
    clear h1 h2 h3 CE esb HTL HK3 HN3 HV3 b0 b1 b2 b3 hER
    go_wp2_with fail
    refine Calls.mono (show Calls _ _ _ _ _ from CU.out) ?_
    rintro e w5 ⟨hb5, v5, rfl, hv5⟩
    have HK5 := Hid.mk' (HK4.out.below hb5)
    have HN5 := Hid.mk' (HN4.out.below hb5)
    have HV5 : Hid (FilesK w1.heap.size w5 (.slice ao2 l.length cap2) l) := files_later HV4.out hb5
    have CS : Hid _ := kSame_any w1.heap.size w4.heap.size l l (.slice ao2 l.length cap2) v5 w5 HV5.out hv5
    obtain ⟨ao5, cap5, rfl⟩ := row_form hv5
    clear hb5 hv5 CU HK4 HV4 HN4
    go_wp2_with fail
    refine Calls.mono (show Calls _ _ _ _ _ from CS.out) ?_
    rintro e w6 ⟨rfl, hb6⟩
    have HK6 := Hid.mk' (HK5.out.below hb6)
    have HN6 := Hid.mk' (HN5.out.below hb6)
    have HV6 : Hid (FilesK w1.heap.size w6 (.slice ao2 l.length cap2) l) := files_later HV5.out hb6
    have CU : Hid (Calls Tryz.prog 19 #[ptrV T4.sb, .int .i64 (r.made : Int)] w6 fun e w' => KDump w6 (some l') e w') := by
      have := kDump_any T4 _ (r.made : Int) w6 HK6.out.ok HK6.out.ag (HK6.out.max HMX.out)
      rw [HER.out.new] at this
      exact this
    have HFP' := Hid.mk' (files_paths HK6.out HER.out.new)
    clear hb6 CS HK5 HN5 HV5
    simp only [decide_true]
    go_wp2_with fail
    refine Calls.mono (show Calls _ _ _ _ _ from CU.out) ?_
    rintro e w7 ⟨hb7, v7, rfl, hv7⟩
    have HK7 := Hid.mk' (HK6.out.below hb7)
    have HN7 := Hid.mk' (HN6.out.below hb7)
    have HV7 : Hid (FilesK w1.heap.size w7 (.slice ao2 l.length cap2) l) := files_later HV6.out hb7
    have HW7 : Hid (FilesK w6.heap.size w7 v7 l') := hv7
    obtain ⟨ao7, cap7, rfl⟩ := row_form hv7
    have HB7 : Hid (Below wb.heap.size wb w7) := HK7.out.base
    obtain ⟨lm, hlm⟩ : ∃ lm, ns.length = lm + 1 := ⟨ns.length - 1, by omega⟩
    have elm : (ns.length : Int) - 1 = (lm : Int) := by omega
    have hlmi : (lm : Int) < (ns.length : Int) := by omega
    obtain ⟨last, hlast⟩ : ∃ last, ns[lm]'(by omega) = last := ⟨_, rfl⟩
    have hlr : last < r.made := HMD.out.2 last (by rw [← hlast]; exact List.getElem_mem _)
    have y1 : w7.cell? ⟨g, lm, none⟩ = some (.int .i64 (last : Int)) := by
      rw [HN7.out.row.cellAt lm (by omega), intsV, List.getElem?_map, List.getElem?_eq_getElem (by omega), ← hlast]; rfl
    have hg7 : g < w7.heap.size := World.block_lt_of_cell? w7 _ y1
    obtain ⟨b0, b1, b2, b3⟩ := BX.out w7 HB7.out
    have hsz7 : w.heap.size < w7.heap.size := Nat.lt_of_lt_of_le hsb HB7.out.size
    have CK := kPick_any o.K 6 w7 HO.out.1 (by omega) (by omega)
    clear hb7 hv7 CU HK6 HN6 HV6 HK7 HN7 hlast hcc
    generalize hmd : r.made = md at *
    have hli : ¬ (md : Int) ≤ (last : Int) := by omega
    obtain ⟨kk, hkk⟩ : ∃ kk, kN o.K 6 = kk := ⟨_, rfl⟩
    have hk6 : kk < 6 := by rw [← hkk]; exact kN_lt _ (by omega)
    have HKK := Hid.mk' hkk
    rw [hkk] at CK
    clear hkk
    go_wp2_with fail
    refine CK.mono ?_
    rintro e w7 ⟨rfl, rfl⟩
    clear CK y1 hg7
    go_wp2_with fail
    refine (kPath_any o.A w7 HO.out.2.2.1).mono ?_
    rintro e w8 ⟨rfl, hb8⟩
    have HB8 : Hid (Below w7.heap.size w7 w8) := hb8
    obtain ⟨b0, b1, b2, b3⟩ := BX.out w8 (HB7.out.trans (hb8.mono HB7.out.size))
    have hsz8 : w.heap.size < w8.heap.size := Nat.lt_of_lt_of_le hsz7 hb8.size
    clear hb8
    go_wp2_with fail
    refine (kPath_any o.B w8 HO.out.2.2.2).mono ?_
    rintro e w9 ⟨rfl, hb9⟩
    have HB9 : Hid (Below w7.heap.size w7 w9) := HB8.out.trans (hb9.mono HB8.out.size)
    obtain ⟨b0, b1, b2, b3⟩ := BX.out w9 (HB7.out.trans (HB9.out.mono HB7.out.size))
    have hsz9 : w.heap.size < w9.heap.size := Nat.lt_of_lt_of_le hsz7 HB9.out.size
    clear hb9 HB8
    go_upto_if 124 with fail
    go_cut [22, 23] (fun x y wc => x = SV (aK o) ∧ y = SV (bK o) ∧ Below w7.heap.size w7 wc)
    case first =>
      by_cases h5 : kk = 5
      · have R5 : Hid (aK o = pathK (kN (o.A.tmod 20) 84) ∧ bK o = pathK (kN (o.B.tmod 20) 84)) := by
          have := HKK.out
          exact ⟨by rw [aK, if_pos (by omega)], by rw [bK, if_pos (by omega)]⟩
        subst h5
        go_wp2_with fail
        refine (kPath_any (o.A.tmod 20) w9 (kIn_rem HO.out.2.2.1)).mono ?_
        rintro e w10 ⟨rfl, hb10⟩
        have HB10 : Hid (Below w7.heap.size w7 w10) := HB9.out.trans (hb10.mono HB9.out.size)
        obtain ⟨b0, b1, b2, b3⟩ := BX.out w10 (HB7.out.trans (HB10.out.mono HB7.out.size))
        have hsz10 : w.heap.size < w10.heap.size := Nat.lt_of_lt_of_le hsz7 HB10.out.size
        clear hb10
        go_wp2_with fail
        refine (kPath_any (o.B.tmod 20) w10 (kIn_rem HO.out.2.2.2)).mono ?_
        rintro e w11 ⟨rfl, hb11⟩
        have HB11 : Hid (Below w7.heap.size w7 w11) := HB10.out.trans (hb11.mono HB10.out.size)
        clear hb11
        go_wp2
        go_meet
        case rel => exact ⟨by rw [R5.out.1], by rw [R5.out.2], HB11.out⟩
      · have h5i : ¬ (kk : Int) = 5 := by omega
        have R5 : Hid (aK o = pathK (kN o.A 84) ∧ bK o = pathK (kN o.B 84)) := by
          have := HKK.out
          exact ⟨by rw [aK, if_neg (by omega)], by rw [bK, if_neg (by omega)]⟩
        go_wp2
        go_meet
        case rel => exact ⟨by rw [R5.out.1], by rw [R5.out.2], HB9.out⟩
    case rest =>
      obtain ⟨rfl, rfl, hbc⟩ := hcut
      have HBC : Hid (Below wb.heap.size wb wc) := HB7.out.trans (hbc.mono HB7.out.size)
      have HVC : Hid (FilesK w1.heap.size wc (.slice ao2 l.length cap2) l) := files_later HV7.out hbc
      have HWC : Hid (FilesK w6.heap.size wc (.slice ao7 l'.length cap7) l') := files_later HW7.out hbc
      have HCL := Hid.mk' (filesK_cells HVC.out)
      have HCL' := Hid.mk' (filesK_cells HWC.out)
      have hl20 := HFP.out.1
      have hl20' := HFP'.out.1
      clear hbc HV7 HW7 HB9 b0 b1 b2 b3
      generalize wc = wp at *
      go_wp2
      go_loopw [24, 25] (fun u i wr => ∃ (k : Nat) (xs : List Str), k ≤ l.length ∧ i = .int .i64 k ∧ xs = (l.take k).map (·.1) ∧ wr.ownsRow wp.heap.size 9 1 u k (xs.map SV) ∧ Below wp.heap.size wp wr) (fun _ i _ => l.length - (intOf i).toNat)
      case atStart => exact ⟨0, [], Nat.zero_le _, rfl, rfl, World.ownsRow_nil _ _ _ _, Below.refl _ _⟩
      case round =>
        obtain ⟨k, xs, hk, rfl, hxs, hrow, hb⟩ := hrel
        have HXS : Hid _ := hxs
        clear hxs
        by_cases hlt : k < l.length
        · have hki : (k : Int) < (l.length : Int) := by omega
          rcases HCL.out with ⟨_, h0⟩ | ⟨gf, cf, ef, hgf, hcf, hmf, hpf, hdf⟩
          · rw [h0] at hlt; simp at hlt
          simp only [Value.slice.injEq] at ef
          obtain ⟨rfl, -, rfl⟩ := ef
          have ck : wr.cell? ⟨gf, k * 2, none⟩ = some (SV l[k].1) := (hb.cell (p := ⟨gf, k * 2, none⟩) hgf).trans (hpf k hlt)
          have hgr : gf < wr.heap.size := Nat.lt_of_lt_of_le hgf hb.size
          have hz := hb.size
          have HT : Hid (xs ++ [l[k].1] = (l.take (k + 1)).map (·.1)) := by rw [Hid, List.take_succ_eq_append_getElem hlt, List.map_append, HXS.out]; rfl
          unfold maxLen at hmf
          clear hpf hdf
          generalize l[k].1 = pp at *
          go_wp2_with (at_builtin; go_loud (refine wp_app_str rfl (.tmp 139) (.tmp 145) rfl hrow pp ⟨rfl, rfl, rfl, rfl⟩ rfl rfl (by omega) hz ?_))
          intro v' w' hown' hb'
          have HR : Hid (w'.ownsRow wp.heap.size 9 1 v' (k + 1) ((xs ++ [pp]).map SV)) := by rw [Hid, List.map_append]; exact hown'
          clear hown'
          go_wp2
          go_roundw
          case rel => exact ⟨k + 1, xs ++ [pp], by omega, by go_num, HT.out, HR.out, hb.trans hb'⟩
          case measure => simp [intOf]; omega
        · have hki : ¬ (k : Int) < (l.length : Int) := by omega
          have HXA : Hid (xs = l.map (·.1)) := by rw [Hid, HXS.out, show k = l.length from by omega, List.take_length]
          obtain rfl : k = l.length := by omega
          have HROW := Hid.mk' hrow
          have HBK := Hid.mk' hb
          obtain ⟨aoA, capA, rfl⟩ := row_form hrow
          clear hrow hb HCL HXS
          go_wp2
          go_loopw [24, 26] (fun u i wr => ∃ (k : Nat) (ys : List Str), k ≤ l'.length ∧ i = .int .i64 k ∧ ys = xs ++ (l'.take k).map (·.1) ∧ wr.ownsRow wp.heap.size 9 1 u (l.length + k) (ys.map SV) ∧ Below wp.heap.size wp wr) (fun _ i _ => l'.length - (intOf i).toNat)
          case atStart => exact ⟨0, xs, Nat.zero_le _, rfl, by simp, HROW.out, HBK.out⟩
          case round =>
            obtain ⟨k, ys, hk', rfl, hys, hrow, hb⟩ := hrel
            have HYS : Hid _ := hys
            clear hys HROW HBK
            by_cases hlt : k < l'.length
            · have hki' : (k : Int) < (l'.length : Int) := by omega
              rcases HCL'.out with ⟨_, h0⟩ | ⟨gf, cf, ef, hgf, hcf, hmf, hpf, hdf⟩
              · rw [h0] at hlt; simp at hlt
              simp only [Value.slice.injEq] at ef
              obtain ⟨rfl, -, rfl⟩ := ef
              have ck : wr.cell? ⟨gf, k * 2, none⟩ = some (SV l'[k].1) := (hb.cell (p := ⟨gf, k * 2, none⟩) hgf).trans (hpf k hlt)
              have hgr : gf < wr.heap.size := Nat.lt_of_lt_of_le hgf hb.size
              have hz := hb.size
              have HT : Hid (ys ++ [l'[k].1] = xs ++ (l'.take (k + 1)).map (·.1)) := by rw [Hid, List.take_succ_eq_append_getElem hlt, List.map_append, HYS.out, List.append_assoc]; rfl
              unfold maxLen at hmf
              obtain ⟨aoY, capY, rfl⟩ := row_form hrow
              clear hpf hdf
              generalize l'[k].1 = pp at *
              go_wp2_with (at_builtin; go_loud (refine wp_app_str rfl (.tmp 153) (.tmp 159) rfl hrow pp ⟨rfl, rfl, rfl, rfl⟩ rfl rfl (by omega) hz ?_))
              intro v' w' hown' hb'
              have HR : Hid (w'.ownsRow wp.heap.size 9 1 v' (l.length + (k + 1)) ((ys ++ [pp]).map SV)) := by rw [Hid, List.map_append]; exact hown'
              clear hown'
              go_wp2
              go_roundw
              case rel => exact ⟨k + 1, ys ++ [pp], by omega, by go_num, HT.out, HR.out, hb.trans hb'⟩
              case measure => simp [intOf]; omega
            · have hki' : ¬ (k : Int) < (l'.length : Int) := by omega
              have HYA : Hid (ys = l.map (·.1) ++ l'.map (·.1)) := by rw [Hid, HYS.out, show k = l'.length from by omega, List.take_length, HXA.out]
              obtain rfl : k = l'.length := by omega
              have HROW := Hid.mk' hrow
              have HBK := Hid.mk' hb
              obtain ⟨aoB, capB, rfl⟩ := row_form hrow
              clear hrow hb HCL' HYS HXA
              go_wp2_with fail
              refine (kPath_any c wr hc).mono ?_
              rintro e w12 ⟨rfl, hb12⟩
              have HB12 : Hid (Below wp.heap.size wp w12) := HBK.out.trans (hb12.mono HBK.out.size)
              have HR12 : Hid (w12.ownsRow wp.heap.size 9 1 (.slice aoB (l.length + l'.length) capB) (l.length + l'.length) (ys.map SV)) := rowKept HROW.out fun j hj => hb12.block j (World.ownsRow.lt HROW.out j hj).2
              have hz12 := HB12.out.size
              have HPO : Hid (PathsOk l l' o c (ys ++ [pathK (kN c 84), aK o, bK o])) := by rw [Hid, PathsOk, HYA.out]
              have HPK := Hid.mk' (paths_ok HPO.out HFP.out.2 HFP'.out.2)
              have hlA := aK_short o
              have hlB := bK_short o
              clear hb12 HROW HBK HYA HPO
              obtain ⟨pA, hpA⟩ : ∃ pA, aK o = pA := ⟨_, rfl⟩
              obtain ⟨pB, hpB⟩ : ∃ pB, bK o = pB := ⟨_, rfl⟩
              have HPA := Hid.mk' hpA
              have HPB := Hid.mk' hpB
              have HRA : Hid ((pA == [47]) = false) := by rw [Hid, ← hpA]; exact path_ne_root (aK_ok o)
              have HRB : Hid ((pB == [47]) = false) := by rw [Hid, ← hpB]; exact path_ne_root (bK_ok o)
              rw [hpA] at hlA HPK ⊢
              rw [hpB] at hlB HPK ⊢
              generalize pathK (kN c 84) = pc at *
              clear hpA hpB
              go_wp2_with (at_builtin; go_loud (refine wp_app_strs rfl (.tmp 161) (.tmp 166) rfl HR12.out [pc, pA, pB] ⟨rfl, rfl, rfl, rfl⟩ rfl rfl (by simp; omega) hz12 ?_))
              intro v13 w13 hown13 hb13
              have HR13 : Hid (w13.ownsRow wp.heap.size 9 1 v13 (l.length + l'.length + 3) ((ys ++ [pc, pA, pB]).map SV)) := by rw [Hid, List.map_append]; exact hown13
              have HB13 : Hid (Below wp.heap.size wp w13) := HB12.out.trans hb13
              clear hown13 hb13 HR12 HB12
              obtain ⟨aoP, capP, rfl⟩ := row_form HR13.out
              have HCP := Hid.mk' (strs_cells HR13.out)
              have HZL : Hid ((ys ++ [pc, pA, pB]).length = l.length + l'.length + 3) := by
                have := HR13.out.1
                rw [List.length_map] at this
                rw [Hid]; simpa using this
              have HV13 : Hid (FilesK w1.heap.size w13 (.slice ao2 l.length cap2) l) := files_later HVC.out (HB13.out.mono (Nat.le_refl _))
              have HW13 : Hid (FilesK w6.heap.size w13 (.slice ao7 l'.length cap7) l') := files_later HWC.out (HB13.out.mono (Nat.le_refl _))
              have HBB13 : Hid (Below wb.heap.size wb w13) := HBC.out.trans (HB13.out.mono HBC.out.size)
              generalize hzs : ys ++ [pc, pA, pB] = zs at *
              obtain ⟨N, hNN⟩ : ∃ N, l.length + l'.length + 3 = N := ⟨_, rfl⟩
              rw [hNN] at HR13 HCP HZL ⊢
              have hN43 : N ≤ 43 := by omega
              clear hzs hNN HB13 HR13 HVC HWC HBC
              go_wp2
              go_loopw [27] (fun i wr => ∃ j : Nat, i = .int .i64 j ∧ j ≤ N ∧ Below w13.heap.size w13 wr) (fun i _ => N - (intOf i).toNat)
              case atStart => exact ⟨0, rfl, Nat.zero_le _, Below.refl _ _⟩
              case round =>
                obtain ⟨j, rfl, hj, hb⟩ := hrel
                have HBR := Hid.mk' hb
                by_cases hjN : j < N
                · have hji : (j : Int) < (N : Int) := by omega
                  rcases HCP.out with ⟨_, h0, _⟩ | ⟨gP, cP, eP, hNz, hgP, _, hcP, hmP, hpP⟩
                  · omega
                  simp only [Value.slice.injEq] at eP
                  obtain ⟨rfl, -, rfl⟩ := eP
                  have hjz : j < zs.length := by rw [HZL.out]; exact hjN
                  clear hNz
                  have cj : wr.cell? ⟨gP, j, none⟩ = some (SV zs[j]) := (hb.cell (p := ⟨gP, j, none⟩) hgP).trans (hpP j hjz)
                  have hgr : gP < wr.heap.size := Nat.lt_of_lt_of_le hgP hb.size
                  have HPP := Hid.mk' (HPK.out zs[j] (List.getElem_mem hjz))
                  have hpl := HPP.out.2
                  generalize zs[j] = p at *
                  have HV : Hid (valueK l' p = wantK o l p) := HER.out.val p HPP.out.1
                  have HVR : Hid (FilesK w1.heap.size wr (.slice ao2 l.length cap2) l) := files_later HV13.out hb
                  have HWR : Hid (FilesK w6.heap.size wr (.slice ao7 l'.length cap7) l') := files_later HW13.out hb
                  obtain ⟨b0, b1, b2, b3⟩ := BX.out wr (HBB13.out.trans (hb.mono HBB13.out.size))
                  have hszr : w.heap.size < wr.heap.size := by have h1 := HBB13.out.size; have h2 := hb.size; omega
                  have CV : Hid _ := kValue_any w1.heap.size l (.slice ao2 l.length cap2) p wr HVR.out
                  unfold maxLen at hmP
                  clear hpP hb
                  have HWwr := HWR
                  have HBwr := HBR
                  go_wp2_with fail
                  refine Calls.mono (show Calls _ _ _ _ _ from CV.out) ?_
                  rintro e wr ⟨rfl, rfl⟩
                  clear CV cj
                  have HKV := HKK.out
                  rcases (show kk < 3 ∨ kk = 3 ∨ (kk = 4 ∨ kk = 5) by omega) with h3 | h3 | h3
                  · as_aux_lemma =>
                      have hki3 : (kk : Int) < 3 := by omega
                      have HV3 : Hid (valueK l' p = wantPut l pA (datK (kN o.B 5)) p) := by rw [Hid, HV.out, wantK, if_pos (by omega), HPA.out]
                      have HDL : Hid (∀ b, (p == pA) = b → wantPut l pA (datK (kN o.B 5)) p = if b = true then (datK (kN o.B 5), true) else valueK l p) := fun b hb => by rw [wantPut, hb]
                      clear HV
                      go_upto_region 51 with fail
                      go_cut [223] (fun cc wd => wd = wr ∧ cc = .bool (p == pA))
                      case first =>
                        by_cases hpa : p = pA
                        · have hpa' := hpa.symm
                          subst hpa'
                          go_wp2
                          go_meet
                          case rel => exact ⟨rfl, by simp⟩
                        · have hpaB : (p == pA) = false := by simpa using hpa
                          go_wp2
                          go_meet
                          case rel => exact ⟨rfl, by rw [hpaB]⟩
                      case rest =>
                        obtain ⟨rfl, rfl⟩ := hcut
                        obtain ⟨bq, hbq⟩ : ∃ bq, (p == pA) = bq := ⟨_, rfl⟩
                        have HDQ := Hid.mk' (HDL.out bq hbq)
                        rw [hbq]
                        clear hbq HDL
                        generalize wc = wr at *
                        have hszw : w.heap.size < wr.heap.size := hszr
                        cases bq
                        · have HVE : Hid (valueK l' p = ((valueK l p).1, (valueK l p).2)) := HV3.out.trans HDQ.out
                          clear HV3 HDQ
                          generalize valueK l p = vv at *
                          obtain ⟨vx, vy⟩ := vv
                          simp only at HVE ⊢
                          have CN := kValue_any w6.heap.size l' (.slice ao7 l'.length cap7) p wr HWwr.out
                          rw [HVE.out] at CN
                          have HCN := Hid.mk' CN
                          clear CN HVE
                          go_wp2_with fail
                          refine Calls.mono (show Calls _ _ _ _ _ from HCN.out) ?_
                          rintro e wr ⟨rfl, rfl⟩
                          clear HCN
                          go_wp2
                          go_roundw
                          case rel => exact ⟨j + 1, by go_num, by omega, HBwr.out⟩
                          case measure => simp [intOf]; omega
                        · have HVE : Hid (valueK l' p = (datK (kN o.B 5), true)) := HV3.out.trans HDQ.out
                          clear HV3 HDQ
                          go_wp2_with fail
                          refine (kData_any o.B wr HO.out.2.2.2).mono ?_
                          rintro e ws ⟨rfl, hbs⟩
                          have HWws : Hid (FilesK w6.heap.size ws (.slice ao7 l'.length cap7) l') := files_later HWwr.out hbs
                          have HBws : Hid (Below w13.heap.size w13 ws) := HBwr.out.trans (hbs.mono HBwr.out.size)
                          clear hbs
                          have CN := kValue_any w6.heap.size l' (.slice ao7 l'.length cap7) p ws HWws.out
                          rw [HVE.out] at CN
                          have HCN := Hid.mk' CN
                          clear CN HVE
                          go_wp2_with fail
                          refine Calls.mono (show Calls _ _ _ _ _ from HCN.out) ?_
                          rintro e ws ⟨rfl, rfl⟩
                          clear HCN
                          go_wp2
                          go_roundw
                          case rel => exact ⟨j + 1, by go_num, by omega, HBws.out⟩
                          case measure => simp [intOf]; omega
                  · as_aux_lemma =>
                      have HK3E := Hid.mk' h3
                      have hki3 : ¬ (kk : Int) < 3 := by omega
                      have hkiB : ((kk : Int) == 3) = true := by simp; omega
                      have hkiD : decide ((kk : Int) = 3) = true := by simp; omega
                      have HV3 : Hid (valueK l' p = wantDel l pA p) := by rw [Hid, HV.out, wantK, if_neg (by omega), if_pos (by omega), HPA.out]
                      clear h3 HKV
                      have CBA := Hid.mk' (kBelow_any p pA wr (by unfold maxLen; omega) (by unfold maxLen; omega) HRA.out)
                      have HDL : Hid (∀ b, ((p == pA) || !(belowL p pA).isEmpty) = b → wantDel l pA p = if b = true then ([], false) else valueK l p) := fun b hb => by rw [wantDel, hb]
                      clear HV
                      go_upto_region 55 with fail
                      go_cut [238] (fun cc wd => wd = wr ∧ cc = .bool ((p == pA) || !(belowL p pA).isEmpty))
                      case first =>
                        by_cases hpa : p = pA
                        · have hpa' := hpa.symm
                          subst hpa'
                          go_wp2
                          go_meet
                          case rel => exact ⟨rfl, by simp⟩
                        · have hpaB : (p == pA) = false := by simpa using hpa
                          rcases hba : belowL p pA with _ | ⟨bx, br⟩
                          · rw [hba] at CBA
                            have HBA := Hid.mk' hba
                            clear hba
                            go_wp2_with fail
                            refine Calls.mono (show Calls _ _ _ _ _ from CBA.out) ?_
                            rintro e wr ⟨rfl, rfl⟩
                            clear CBA
                            go_wp2
                            go_meet
                            case rel => exact ⟨rfl, by rw [hpaB, HBA.out]; rfl⟩
                          · rw [hba] at CBA
                            have HBA := Hid.mk' hba
                            clear hba
                            go_wp2_with fail
                            refine Calls.mono (show Calls _ _ _ _ _ from CBA.out) ?_
                            rintro e wr ⟨rfl, rfl⟩
                            clear CBA
                            go_wp2
                            go_meet
                            case rel => exact ⟨rfl, by rw [hpaB, HBA.out]; rfl⟩
                      case rest =>
                        obtain ⟨rfl, rfl⟩ := hcut
                        clear CBA
                        obtain ⟨bq, hbq⟩ : ∃ bq, ((p == pA) || !(belowL p pA).isEmpty) = bq := ⟨_, rfl⟩
                        have HDQ := Hid.mk' (HDL.out bq hbq)
                        rw [hbq]
                        clear hbq HDL
                        generalize wc = wr at *
                        cases bq
                        · have HVE : Hid (valueK l' p = ((valueK l p).1, (valueK l p).2)) := HV3.out.trans HDQ.out
                          clear HV3 HDQ
                          generalize valueK l p = vv at *
                          obtain ⟨vx, vy⟩ := vv
                          simp only at HVE ⊢
                          have CN := kValue_any w6.heap.size l' (.slice ao7 l'.length cap7) p wr HWwr.out
                          rw [HVE.out] at CN
                          have HCN := Hid.mk' CN
                          clear CN HVE
                          go_wp2_with fail
                          refine Calls.mono (show Calls _ _ _ _ _ from HCN.out) ?_
                          rintro e wr ⟨rfl, rfl⟩
                          clear HCN
                          go_wp2
                          go_roundw
                          case rel => exact ⟨j + 1, by go_num, by omega, HBwr.out⟩
                          case measure => simp [intOf]; omega
                        · have HVE : Hid (valueK l' p = ([], false)) := HV3.out.trans HDQ.out
                          clear HV3 HDQ
                          have CN := kValue_any w6.heap.size l' (.slice ao7 l'.length cap7) p wr HWwr.out
                          rw [HVE.out] at CN
                          have HCN := Hid.mk' CN
                          clear CN HVE
                          go_wp2_with fail
                          refine Calls.mono (show Calls _ _ _ _ _ from HCN.out) ?_
                          rintro e wr ⟨rfl, rfl⟩
                          clear HCN
                          go_wp2
                          go_roundw
                          case rel => exact ⟨j + 1, by go_num, by omega, HBwr.out⟩
                          case measure => simp [intOf]; omega
                  · as_aux_lemma =>
                      have hki3 : ¬ (kk : Int) < 3 := by omega
                      have hki33 : ¬ (kk : Int) = 3 := by omega
                      have HV3 : Hid (valueK l' p = wantMove l pA pB p) := by rw [Hid, HV.out, wantK, if_neg (by omega), if_neg (by omega), HPA.out, HPB.out]
                      clear HV HKV
                      have CB0 := Hid.mk' (kBelow_any p pB wr (by unfold maxLen; omega) (by unfold maxLen; omega) HRB.out)
                      have hbl := belowL_len p pB
                      have HVM : Hid (valueK l' p = wantMove l pA pB p) := HV3.out
                      clear HV3
                      obtain ⟨bb, hbb⟩ : ∃ bb, belowL p pB = bb := ⟨_, rfl⟩
                      have HBBE := Hid.mk' hbb
                      rw [hbb] at CB0 hbl
                      clear hbb
                      go_wp2_with fail
                      refine Calls.mono (show Calls _ _ _ _ _ from CB0.out) ?_
                      rintro e wr ⟨rfl, rfl⟩
                      clear CB0
                      have CBA := Hid.mk' (kBelow_any p pA wr (by unfold maxLen; omega) (by unfold maxLen; omega) HRA.out)
                      clear h3
                      go_upto_region 40 with fail
                      go_cut [195] (fun cc wd => wd = wr ∧ cc = .bool ((p == pA) || !(belowL p pA).isEmpty))
                      case first =>
                        by_cases hpa : p = pA
                        · have hpa' := hpa.symm
                          subst hpa'
                          go_wp2
                          go_meet
                          case rel => exact ⟨rfl, by simp⟩
                        · have hpaB : (p == pA) = false := by simpa using hpa
                          rcases hba : belowL p pA with _ | ⟨bx, br⟩
                          · rw [hba] at CBA
                            have HBA := Hid.mk' hba
                            clear hba
                            clear hbl HBBE HVM hki33 hki3 hlen hc HMX hpos hl11 hgb hcp hcm hq hqi HN HFL hg hsz1 HPL hsz3 HFP HER HFP' hlmi HMD hlr hli hsz7 hsz8 hsz9 hl20 hl20' hk hki hk' hlt hki' hz12 hlA hlB HPK HZL hN43 hj hjN hji hgP HCP hcP hmP hjz HPP
                            go_wp2_with fail
                            refine Calls.mono (show Calls _ _ _ _ _ from CBA.out) ?_
                            rintro e wr ⟨rfl, rfl⟩
                            clear CBA
                            go_wp2
                            go_meet
                            case rel => exact ⟨rfl, by rw [hpaB, HBA.out]; rfl⟩
                          · rw [hba] at CBA
                            have HBA := Hid.mk' hba
                            clear hba
                            clear hbl HBBE HVM hki33 hki3 hlen hc HMX hpos hl11 hgb hcp hcm hq hqi HN HFL hg hsz1 HPL hsz3 HFP HER HFP' hlmi HMD hlr hli hsz7 hsz8 hsz9 hl20 hl20' hk hki hk' hlt hki' hz12 hlA hlB HPK HZL hN43 hj hjN hji hgP HCP hcP hmP hjz HPP
                            go_wp2_with fail
                            refine Calls.mono (show Calls _ _ _ _ _ from CBA.out) ?_
                            rintro e wr ⟨rfl, rfl⟩
                            clear CBA
                            go_wp2
                            go_meet
                            case rel => exact ⟨rfl, by rw [hpaB, HBA.out]; rfl⟩
                      case rest =>
                        obtain ⟨rfl, rfl⟩ := hcut
                        clear CBA
                        have HDL : Hid (∀ b, ((p == pA) || !(belowL p pA).isEmpty) = b → wantDel l pA p = if b = true then ([], false) else valueK l p) := fun b hb => by rw [wantDel, hb]
                        obtain ⟨bq, hbq⟩ : ∃ bq, ((p == pA) || !(belowL p pA).isEmpty) = bq := ⟨_, rfl⟩
                        have HDQ := Hid.mk' (HDL.out bq hbq)
                        rw [hbq]
                        clear hbq HDL
                        go_upto_if 195 with fail
                        go_cut [29, 30] (fun x y wd => wd = wc ∧ ∃ dx dy, x = SV dx ∧ y = .bool dy ∧ wantDel l pA p = (dx, dy))
                        case first =>
                          cases bq
                          · go_wp2
                            go_meet
                            case rel => exact ⟨rfl, (valueK l p).1, (valueK l p).2, rfl, rfl, HDQ.out⟩
                          · go_wp2
                            go_meet
                            case rel => exact ⟨rfl, [], false, rfl, rfl, HDQ.out⟩
                        case rest =>
                          obtain ⟨rfl, dx, dy, rfl, rfl, hdel⟩ := hcut
                          have HDE := Hid.mk' hdel
                          clear hdel HDQ
                          generalize wc = wr at *
                          clear hlen hc HMX hpos hl11 hgb hcp hcm hq hqi HN HFL hg hsz1 HPL hsz3 HFP HER HFP' hlmi HMD hlr hli hsz7 hsz8 hsz9 hl20 hl20' hk hki hk' hlt hki' hz12 HPK HZL hgP HCP hcP hmP hjz HPP hki33 hki3
                          by_cases hpb : p = pB
                          · have HVE : Hid (valueK l' p = ((valueK l pA).1, (valueK l pA).2)) := by rw [Hid, HVM.out, wantMove, if_pos (by simp [hpb])]
                            have CVA := Hid.mk' (kValue_any w1.heap.size l (.slice ao2 l.length cap2) pA wr HVR.out)
                            have hpb' := hpb.symm
                            subst hpb'
                            clear HVM HDE
                            generalize valueK l pA = vv at *
                            obtain ⟨vx, vy⟩ := vv
                            simp only at HVE CVA
                            go_wp2_with fail
                            refine Calls.mono (show Calls _ _ _ _ _ from CVA.out) ?_
                            rintro e wr ⟨rfl, rfl⟩
                            clear CVA
                            have CN := kValue_any w6.heap.size l' (.slice ao7 l'.length cap7) pB wr HWwr.out
                            rw [HVE.out] at CN
                            have HCN := Hid.mk' CN
                            clear CN HVE
                            go_wp2_with fail
                            refine Calls.mono (show Calls _ _ _ _ _ from HCN.out) ?_
                            rintro e wr ⟨rfl, rfl⟩
                            clear HCN
                            go_wp2
                            go_roundw
                            case rel => exact ⟨j + 1, by go_num, by omega, HBwr.out⟩
                            case measure => simp [intOf]; omega
                          · have hpbB : (p == pB) = false := by simpa using hpb
                            rcases hb2 : bb with _ | ⟨bx, br⟩
                            · have HVE : Hid (valueK l' p = (dx, dy)) := by
                                have e1 : belowL p pB = [] := HBBE.out.trans hb2
                                rw [Hid, HVM.out, wantMove, hpbB, e1, HDE.out]; rfl
                              subst hb2
                              clear HVM HDE HBBE
                              have CN := kValue_any w6.heap.size l' (.slice ao7 l'.length cap7) p wr HWwr.out
                              rw [HVE.out] at CN
                              have HCN := Hid.mk' CN
                              clear CN HVE
                              go_wp2_with fail
                              refine Calls.mono (show Calls _ _ _ _ _ from HCN.out) ?_
                              rintro e wr ⟨rfl, rfl⟩
                              clear HCN
                              go_wp2
                              go_roundw
                              case rel => exact ⟨j + 1, by go_num, by omega, HBwr.out⟩
                              case measure => simp [intOf]; omega
                            · have HVE : Hid (valueK l' p = if (valueK l (pA ++ 47 :: (bx :: br))).2 = true then valueK l (pA ++ 47 :: (bx :: br)) else (dx, dy)) := by
                                have e1 : belowL p pB = bx :: br := HBBE.out.trans hb2
                                rw [Hid, HVM.out, wantMove, hpbB, e1, HDE.out]; rfl
                              have CVC := Hid.mk' (kValue_any w1.heap.size l (.slice ao2 l.length cap2) (pA ++ 47 :: (bx :: br)) wr HVR.out)
                              subst hb2
                              clear HVM HDE HBBE
                              have hap := app_list
                              have hbl2 : br.length ≤ 44 := by simp only [List.length_cons] at hbl; omega
                              generalize valueK l (pA ++ 47 :: (bx :: br)) = vv at *
                              obtain ⟨vx, vy⟩ := vv
                              simp only at HVE CVC
                              cases vy
                              · simp only [Bool.false_eq_true, if_false] at HVE
                                go_wp2_with fail
                                refine Calls.mono (show Calls _ _ _ _ _ from CVC.out) ?_
                                rintro e wr ⟨rfl, rfl⟩
                                clear CVC hap
                                have CN := kValue_any w6.heap.size l' (.slice ao7 l'.length cap7) p wr HWwr.out
                                rw [HVE.out] at CN
                                have HCN := Hid.mk' CN
                                clear CN HVE
                                go_wp2_with fail
                                refine Calls.mono (show Calls _ _ _ _ _ from HCN.out) ?_
                                rintro e wr ⟨rfl, rfl⟩
                                clear HCN
                                go_wp2
                                go_roundw
                                case rel => exact ⟨j + 1, by go_num, by omega, HBwr.out⟩
                                case measure => simp [intOf]; omega
                              · simp only [if_true] at HVE
                                go_wp2_with fail
                                refine Calls.mono (show Calls _ _ _ _ _ from CVC.out) ?_
                                rintro e wr ⟨rfl, rfl⟩
                                clear CVC hap
                                have CN := kValue_any w6.heap.size l' (.slice ao7 l'.length cap7) p wr HWwr.out
                                rw [HVE.out] at CN
                                have HCN := Hid.mk' CN
                                clear CN HVE
                                go_wp2_with fail
                                refine Calls.mono (show Calls _ _ _ _ _ from HCN.out) ?_
                                rintro e wr ⟨rfl, rfl⟩
                                clear HCN
                                go_wp2
                                go_roundw
                                case rel => exact ⟨j + 1, by go_num, by omega, HBwr.out⟩
                                case measure => simp [intOf]; omega
                · have hji : ¬ (j : Int) < (N : Int) := by omega
                  have R : Hid (KBool w true (.returned (.bool true)) wr) := ⟨rfl, HBB.out.trans ((HBB13.out.trans (hb.mono HBB13.out.size)).mono HBB.out.size)⟩
                  clear hb
                  go_wp2
                  go_ret
                  exact R.out


end Go.Proofs.YtdcbgfhkfmohiaaGreatDoor
