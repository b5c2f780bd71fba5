/- Diffed: the walk. -/
import Derived.Test.YtdcbgfhkfmohiaaGreatDoorDf32
import Derived.Deep.DeepCutAuto
namespace Go.Proofs.YtdcbgfhkfmohiaaGreatDoor
open Go.RowKit
attribute [local go_sem] Oper.semAt_some

theorem place_paths : ∀ k : Fin 84, isPlaceL (pathK k.1) = true := by decide +kernel
theorem count_take {l : List Fl} (P : Fl → Bool) {k c : Nat} (hk : k < l.length) (hc : c = (l.take k).countP P) {b : Bool} (hb : P l[k] = b) : (l.take (k + 1)).countP P = c + if b = true then 1 else 0 := by
  rw [List.take_succ_eq_append_getElem hk, List.countP_append, List.countP_singleton, hb, hc]
theorem any_take {l : List Str} (P : Str → Bool) {k : Nat} (hk : k < l.length) : (l.take (k + 1)).any P = ((l.take k).any P || P l[k]) := by
  rw [List.take_succ_eq_append_getElem hk, List.any_append]
  simp

set_option maxHeartbeats 32000000 in
set_option maxRecDepth 50000 in
theorem kDiffed_any (v : Value) (len : Nat) (O : Nat → KStep) (ca cb cc : Int) (w : World) (h : StepsAt w v len O) (hok : ∀ i, i < len → (O i).ok) (hlen : len ≤ 2000000000000000) (ha : kIn ca) (hb : kIn cb) (hc : kIn cc) (hmx : MaxOk w) :
    Calls Tryz.prog 8 #[v, .int .i64 ca, .int .i64 cb, .int .i64 cc] w fun e w' => KBool w true e w' := by
  have C1 := kPlayed_any v len O w h hok hlen hmx
  have HMX := Hid.mk' hmx
  clear h hok hmx
  go_enter Tryz.func8, Tryz.ntmps8
  go_wp2_with fail
  refine C1.mono ?_
  rintro e w1 ⟨T, r, u, ns, rfl, hP⟩
  have hf := hP.pl.facts
  have hpos : 0 < ns.length := List.length_pos_iff.2 hf.2.2.1
  have hl11 := hf.2.2.2.1
  obtain ⟨g, cp, rfl, hg, hgb, hcp, hcm, hcell⟩ := ints_cells hP.row hf.2.2.1
  have CK := kPick_any ca ns.length w1 ha hpos (by omega)
  have hq := kN_lt ca hpos
  generalize kN ca ns.length = q at *
  have hqi : (q : Int) < (ns.length : Int) := by omega
  have da : w1.cell? ⟨g, q, none⟩ = some (.int .i64 (ns[q] : Int)) := hcell q hq
  have CK2 := kPick_any cb ns.length w1 hb hpos (by omega)
  have hq2 := kN_lt cb hpos
  generalize kN cb ns.length = q2 at *
  have hqi2 : (q2 : Int) < (ns.length : Int) := by omega
  have db : w1.cell? ⟨g, q2, none⟩ = some (.int .i64 (ns[q2] : Int)) := hcell q2 hq2
  obtain ⟨l, hl⟩ := hP.pl.find (List.getElem_mem hq)
  obtain ⟨m, hm⟩ := hP.pl.find (List.getElem_mem hq2)
  obtain ⟨⟨bs, cs, ps, hD⟩, hd1, hd2, hsm⟩ := diffed_at hP.st hl hm
  have hl20 := (files_paths hP.st hl).1
  have hm20 := (files_paths hP.st hm).1
  have HL := Hid.mk' hl
  have HM := Hid.mk' hm
  have HD := Hid.mk' hD
  have HD1 := Hid.mk' hd1
  have HD2 := Hid.mk' hd2
  have HSM := Hid.mk' hsm
  have HK1 := Hid.mk' hP.st
  have CU : Hid (Calls Tryz.prog 19 #[ptrV T.sb, .int .i64 (ns[q] : Int)] w1 fun e w' => KDump w1 (some l) e w') := by
    have := kDump_any T r (ns[q] : Int) w1 hP.st.ok hP.st.ag (hP.st.max HMX.out)
    rw [hl] at this
    exact this
  clear hP hf hcell C1 hl hm hD hd1 hd2 hsm
  generalize ns[q] = n at *
  generalize ns[q2] = n2 at *
  unfold maxLen at hcm
  go_wp2_with fail
  refine CK.mono ?_
  rintro e w1 ⟨rfl, rfl⟩
  clear CK
  go_wp2_with fail
  refine CK2.mono ?_
  rintro e w1 ⟨rfl, rfl⟩
  clear CK2
  go_wp2_with fail
  refine Calls.mono (show Calls _ _ _ _ _ from CU.out) ?_
  rintro e w2 ⟨hb2, v2, rfl, hv2⟩
  have HK2 := Hid.mk' (HK1.out.below hb2)
  have HV2 := Hid.mk' hv2
  obtain ⟨ao2, cap2, rfl⟩ := row_form hv2
  have CU2 : Hid (Calls Tryz.prog 19 #[ptrV T.sb, .int .i64 (n2 : Int)] w2 fun e w' => KDump w2 (some m) e w') := by
    have := kDump_any T r (n2 : Int) w2 HK2.out.ok HK2.out.ag (HK2.out.max HMX.out)
    rw [HM.out] at this
    exact this
  clear hb2 hv2 CU HK1 da db
  go_wp2_with fail
  refine Calls.mono (show Calls _ _ _ _ _ from CU2.out) ?_
  rintro e w3 ⟨hb3, v3, rfl, hv3⟩
  have HK3 := Hid.mk' (HK2.out.below hb3)
  have HV3 : Hid (FilesK w1.heap.size w3 (.slice ao2 l.length cap2) l) := filesK_later HV2.out hb3
  have HW3 := Hid.mk' hv3
  obtain ⟨ao3, cap3, rfl⟩ := row_form hv3
  have CD : Hid (Calls Tryz.prog 27 #[ptrV T.sb, .int .i64 (n : Int), .int .i64 (n2 : Int)] w3 fun e w' => DiffOut w3 (diffT l m, 0) e w') := by
    have := storeDiff_any T r (n : Int) (n2 : Int) w3 HK3.out.ok HK3.out.ag
    rw [HD1.out] at this
    exact this
  clear hb3 hv3 CU2 HK2 HV2
  go_wp2_with fail
  refine Calls.mono (show Calls _ _ _ _ _ from CD.out) ?_
  rintro e w4 ⟨rfl, hb4⟩
  have HK4 := Hid.mk' (HK3.out.below hb4)
  have HV4 : Hid (FilesK w1.heap.size w4 (.slice ao2 l.length cap2) l) := filesK_later HV3.out hb4
  have HW4 : Hid (FilesK w2.heap.size w4 (.slice ao3 m.length cap3) m) := filesK_later HW3.out hb4
  have CD2 : Hid (Calls Tryz.prog 27 #[ptrV T.sb, .int .i64 (n2 : Int), .int .i64 (n : Int)] w4 fun e w' => DiffOut w4 (diffT m l, 0) e w') := by
    have := storeDiff_any T r (n2 : Int) (n : Int) w4 HK4.out.ok HK4.out.ag
    rw [HD2.out] at this
    exact this
  clear hb4 CD HK3 HV3 HW3
  generalize ht1 : diffT l m = t1 at *
  generalize ht2 : diffT m l = t2 at *
  have HT1 := Hid.mk' ht1
  have HT2 := Hid.mk' ht2
  clear ht1 ht2
  go_wp2_with fail
  refine Calls.mono (show Calls _ _ _ _ _ from CD2.out) ?_
  rintro e w5 ⟨rfl, hb5⟩
  have HK5 := Hid.mk' (HK4.out.below hb5)
  have HV5 : Hid (FilesK w1.heap.size w5 (.slice ao2 l.length cap2) l) := filesK_later HV4.out hb5
  have HW5 : Hid (FilesK w2.heap.size w5 (.slice ao3 m.length cap3) m) := filesK_later HW4.out hb5
  have hpl : ∀ p ∈ ps, p.length ≤ 44 := fun p hp => by
    obtain ⟨k, hk, rfl⟩ := List.getElem_of_mem hp
    exact (HD.out.line k hk).path.2
  have HZ1 := Hid.mk' (zip_text HD.out.lb HD.out.free (fun b hb => HD.out.marks b (by simp [hb])) hpl HD.out.few)
  have HZ2 := Hid.mk' (zip_text HD.out.lc HD.out.free (fun b hb => HD.out.marks b (by simp [hb])) hpl HD.out.few)
  have CL : Hid (Calls Tryz.prog 28 #[SV t1] w5 fun e w' => KLines w5 t1 e w') := kLines_any t1 w5 (by rw [← HT1.out, HD.out.one]; exact HZ1.out.2)
  clear hb5 CD2 HK4 HV4 HW4 hpl
  go_wp2_with fail
  refine Calls.mono (show Calls _ _ _ _ _ from CL.out) ?_
  rintro e w6 ⟨vx, xs, rest, rfl, hrx, hb6, hsx⟩
  rw [← HT1.out, HD.out.one] at hsx
  obtain ⟨rfl, rfl⟩ := lines_of HZ1.out.1 hsx
  rw [zip_len HD.out.lb] at hrx
  have HK6 := Hid.mk' (HK5.out.below hb6)
  have HV6 : Hid (FilesK w1.heap.size w6 (.slice ao2 l.length cap2) l) := filesK_later HV5.out hb6
  have HW6 : Hid (FilesK w2.heap.size w6 (.slice ao3 m.length cap3) m) := filesK_later HW5.out hb6
  have HX6 := Hid.mk' hrx
  obtain ⟨aoX, capX, rfl⟩ := row_form hrx
  have CL2 : Hid (Calls Tryz.prog 28 #[SV t2] w6 fun e w' => KLines w6 t2 e w') := kLines_any t2 w6 (by rw [← HT2.out, HD.out.two]; exact HZ2.out.2)
  clear hb6 CL HK5 HV5 HW5 hsx hrx
  go_wp2_with fail
  refine Calls.mono (show Calls _ _ _ _ _ from CL2.out) ?_
  rintro e w7 ⟨vy, ys, rest, rfl, hry, hb7, hsy⟩
  rw [← HT2.out, HD.out.two] at hsy
  obtain ⟨rfl, rfl⟩ := lines_of HZ2.out.1 hsy
  rw [zip_len HD.out.lc] at hry
  have HK7 := Hid.mk' (HK6.out.below hb7)
  have HV7 : Hid (FilesK w1.heap.size w7 (.slice ao2 l.length cap2) l) := filesK_later HV6.out hb7
  have HW7 : Hid (FilesK w2.heap.size w7 (.slice ao3 m.length cap3) m) := filesK_later HW6.out hb7
  have HX7 : Hid (w7.ownsRow w5.heap.size 9 1 (.slice aoX ps.length capX) ps.length ((List.zipWith (fun b p => b :: p) bs ps).map SV)) := rowKept HX6.out fun j hj => hb7.block j (World.ownsRow.lt HX6.out j hj).2
  have HY7 := Hid.mk' hry
  obtain ⟨aoY, capY, rfl⟩ := row_form hry
  have CS : Hid (Calls Tryz.prog 29 #[ptrV T.sb, .int .i64 (n : Int), .int .i64 (n2 : Int), .string ⟨#[47]⟩] w7 fun e w' => SameOut w7 (decide (ps.length = 0), 0) e w') := by
    have := storeSame_any T r (n : Int) (n2 : Int) [47] w7 HK7.out.ok HK7.out.ag (by decide)
    rw [HSM.out [47] (by decide), HD.out.root] at this
    exact this
  obtain ⟨al, hal⟩ : ∃ al, decide (ps.length = 0) = al := ⟨_, rfl⟩
  rw [hal] at CS
  have HAL := Hid.mk' hal
  clear hb7 CL2 HK6 HV6 HW6 hsy hry HX6 hal
  go_wp2_with fail
  refine Calls.mono (show Calls _ _ _ _ _ from CS.out) ?_
  rintro e w8 ⟨rfl, hb8⟩
  have HK8 := Hid.mk' (HK7.out.below hb8)
  have HV8 : Hid (FilesK w1.heap.size w8 (.slice ao2 l.length cap2) l) := filesK_later HV7.out hb8
  have HW8 : Hid (FilesK w2.heap.size w8 (.slice ao3 m.length cap3) m) := filesK_later HW7.out hb8
  have HX8 : Hid (w8.ownsRow w5.heap.size 9 1 (.slice aoX ps.length capX) ps.length ((List.zipWith (fun b p => b :: p) bs ps).map SV)) := rowKept HX7.out fun j hj => hb8.block j (World.ownsRow.lt HX7.out j hj).2
  have HY8 : Hid (w8.ownsRow w6.heap.size 9 1 (.slice aoY ps.length capY) ps.length ((List.zipWith (fun b p => b :: p) cs ps).map SV)) := rowKept HY7.out fun j hj => hb8.block j (World.ownsRow.lt HY7.out j hj).2
  have hps := HD.out.few
  clear hb8 CS HK7 HV7 HW7 HX7 HY7
  go_upto_region 13 with fail
  go_cut [151] (fun c wc => c = .bool false ∧ wc = w8)
  case first =>
    by_cases h0 : ps.length = 0
    · have h0i : (ps.length : Int) = 0 := by omega
      obtain rfl : al = true := by rw [← HAL.out]; exact decide_eq_true h0
      go_wp2
      go_meet
      case rel => exact ⟨by simp, rfl⟩
    · have h0i : ¬ (ps.length : Int) = 0 := by omega
      obtain rfl : al = false := by rw [← HAL.out]; exact decide_eq_false h0
      go_wp2
      go_meet
      case rel => exact ⟨by simp; intro e; exact h0 (by rw [e]; rfl), rfl⟩
  case rest =>
    obtain ⟨rfl, rfl⟩ := hcut
    have HCX := Hid.mk' (strs_cells HX8.out)
    have HCY := Hid.mk' (strs_cells HY8.out)
    have hX := extract_list
    have hG := get_list
    have HKB := Hid.mk' HK8.out.base
    generalize wc = wp at *
    go_wp2
    go_loopw [27, 28] (fun u i wr => ∃ (k : Nat) (zs : List Str), k ≤ ps.length ∧ i = .int .i64 k ∧ zs = ps.take k ∧ wr.ownsRow wp.heap.size 9 1 u k (zs.map SV) ∧ Below wp.heap.size wp wr) (fun _ i _ => ps.length - (intOf i).toNat)
    case atStart => exact ⟨0, [], Nat.zero_le _, rfl, rfl, World.ownsRow_nil _ _ _ _, Below.refl _ _⟩
    case round =>
      obtain ⟨k, zs, hk, rfl, hzs, hrow, hb⟩ := hrel
      have HZS := Hid.mk' hzs
      clear hzs
      by_cases hlt : k < ps.length
      · as_aux_lemma =>
          have hki : (k : Int) < (ps.length : Int) := by omega
          rcases HCX.out with ⟨_, h0, _⟩ | ⟨gX, cX, eX, hnX, hgX, hwX, hcX, hmX, hpX⟩
          · omega
          rcases HCY.out with ⟨_, h0, _⟩ | ⟨gY, cY, eY, hnY, hgY, hwY, hcY, hmY, hpY⟩
          · omega
          simp only [Value.slice.injEq] at eX eY
          obtain ⟨rfl, -, rfl⟩ := eX
          obtain ⟨rfl, -, rfl⟩ := eY
          have hlb := HD.out.lb
          have hlc := HD.out.lc
          have x1 : wr.cell? ⟨gX, k, none⟩ = some (SV (bs[k] :: ps[k])) := (hb.cell (p := ⟨gX, k, none⟩) hgX).trans (by rw [hpX k (by rw [zip_len hlb]; exact hlt), zip_get (by omega) hlt])
          have y1 : wr.cell? ⟨gY, k, none⟩ = some (SV (cs[k] :: ps[k])) := (hb.cell (p := ⟨gY, k, none⟩) hgY).trans (by rw [hpY k (by rw [zip_len hlc]; exact hlt), zip_get (by omega) hlt])
          have hgXr : gX < wr.heap.size := Nat.lt_of_lt_of_le hgX hb.size
          have hgYr : gY < wr.heap.size := Nat.lt_of_lt_of_le hgY hb.size
          have HLN := Hid.mk' (HD.out.line k hlt)
          have hp1 : 1 ≤ ps[k].length := by
            have := (path_names HLN.out.path.1)
            rcases Nat.eq_zero_or_pos ps[k].length with h | h
            · have e := List.eq_nil_of_length_eq_zero h
              have h2 := HLN.out.path.1
              rw [e] at h2
              exact absurd h2 (by decide)
            · exact h
          have hp44 := HLN.out.path.2
          have HPX : Hid (∀ j (hj : j < ps.length), wp.cell? ⟨gX, j, none⟩ = some (SV (bs[j]'(by rw [HD.out.lb]; exact hj) :: ps[j]))) := fun j hj => by rw [hpX j (by rw [zip_len hlb]; exact hj), zip_get (by rw [HD.out.lb]; exact hj) hj]
          unfold maxLen at hmX hmY
          generalize bs[k] = bb at *
          generalize cs[k] = dd at *
          generalize hpk : ps[k] = pp at *
          have HPKK := Hid.mk' hpk
          clear hpX hpY hlb hlc hpk hnX hnY hwX hwY
          have g1 : ¬ ((pp.length : Int) + 1 < 2) := by omega
          have g2 : decide ((pp.length : Int) + 1 < 2) = false := by simpa using g1
          have g3 : (1 : Int) ≤ (pp.length : Int) + 1 := by omega
          go_upto_region 19 with fail
          go_cut [184] (fun c wc => c = .bool false ∧ Below wr.heap.size wr wc)
          case first =>
            go_quiet (fail)
            all_goals go_wp2
            all_goals go_meet
            case rel => exact ⟨by simp, below_drewN (Below.refl _ _) _⟩
          case rest =>
            obtain ⟨rfl, hbc⟩ := hcut
            have HR1 : Hid (wc.ownsRow wp.heap.size 9 1 u27 k (zs.map SV)) := rowKept hrow fun j hj => hbc.block j (World.ownsRow.lt hrow j hj).2
            have HB1 : Hid (Below wp.heap.size wp wc) := hb.trans (hbc.mono hb.size)
            have x2 : wc.cell? ⟨gX, k, none⟩ = some (SV (bb :: pp)) := (hbc.cell (p := ⟨gX, k, none⟩) hgXr).trans x1
            have y2 : wc.cell? ⟨gY, k, none⟩ = some (SV (dd :: pp)) := (hbc.cell (p := ⟨gY, k, none⟩) hgYr).trans y1
            have hgX2 : gX < wc.heap.size := Nat.lt_of_lt_of_le hgXr hbc.size
            have hgY2 : gY < wc.heap.size := Nat.lt_of_lt_of_le hgYr hbc.size
            clear hbc x1 y1 hrow hb hgXr hgYr
            generalize wc = wy at *
            go_upto_if 186 with fail
            go_cut [29] (fun _ wc => Below wy.heap.size wy wc)
            case first =>
              by_cases hk0 : k = 0
              · have hk0i : ¬ (0 : Int) < (k : Int) := by omega
                clear hk0
                go_wp2
                go_meet
                case rel => exact Below.refl _ _
              · obtain ⟨mm, hmm⟩ : ∃ mm, k = mm + 1 := ⟨k - 1, by omega⟩
                have hk0i : (0 : Int) < (k : Int) := by omega
                have emm : (k : Int) - 1 = (mm : Int) := by omega
                have hmmi : (mm : Int) < (ps.length : Int) := by omega
                have hmlt : mm < ps.length := by omega
                have x3 : wy.cell? ⟨gX, mm, none⟩ = some (SV (bs[mm]'(by rw [HD.out.lb]; exact hmlt) :: ps[mm])) := (HB1.out.cell (p := ⟨gX, mm, none⟩) hgX).trans (HPX.out mm hmlt)
                have hq44 := (HD.out.line mm hmlt).path.2
                have CL : Hid (∀ W, Calls Tryz.prog 30 #[SV ps[mm], SV pp] W fun e w' => e = .returned (.bool true) ∧ w' = W) := fun W => by
                  have := kLess_any ps[mm] pp W (by omega)
                  have ho := HD.out.order mm (by omega)
                  have e : ps[mm + 1]'(by omega) = pp := by rw [← HPKK.out]; congr 1; omega
                  rw [e] at ho
                  rw [ho] at this
                  exact this
                clear hmm hk0
                generalize bs[mm]'(by rw [HD.out.lb]; exact hmlt) = b3 at *
                generalize ps[mm] = p3 at *
                go_wp2_with fail
                go_quiet (first | (go_at_call 30; exact Calls.quiet_of_same (CL.out _)))
                all_goals go_wp2
                all_goals go_meet
                case rel => exact below_drewN (Below.refl _ _) _
            case rest =>
              have hbc := hcut
              have HR2 : Hid (wc.ownsRow wp.heap.size 9 1 u27 k (zs.map SV)) := rowKept HR1.out fun j hj => hbc.block j (World.ownsRow.lt HR1.out j hj).2
              have HB2 : Hid (Below wp.heap.size wp wc) := HB1.out.trans (hbc.mono HB1.out.size)
              have x3 : wc.cell? ⟨gX, k, none⟩ = some (SV (bb :: pp)) := (hbc.cell (p := ⟨gX, k, none⟩) hgX2).trans x2
              have y3 : wc.cell? ⟨gY, k, none⟩ = some (SV (dd :: pp)) := (hbc.cell (p := ⟨gY, k, none⟩) hgY2).trans y2
              have hgX3 : gX < wc.heap.size := Nat.lt_of_lt_of_le hgX2 hbc.size
              have hgY3 : gY < wc.heap.size := Nat.lt_of_lt_of_le hgY2 hbc.size
              clear hbc hcut x2 y2 HR1 HB1 hgX2 hgY2
              generalize wc = wz at *
              have CV : Hid _ := kValue_any w1.heap.size l (.slice ao2 l.length cap2) pp wz (filesK_later HV8.out (HB2.out.mono (Nat.le_refl _)))
              have CW : Hid _ := kValue_any w2.heap.size m (.slice ao3 m.length cap3) pp wz (filesK_later HW8.out (HB2.out.mono (Nat.le_refl _)))
              have hsay := HLN.out.say
              have HZN : Hid (zs ++ [pp] = ps.take (k + 1)) := by rw [Hid, List.take_succ_eq_append_getElem hlt, HZS.out, HPKK.out]
              have hz := HB2.out.size
              obtain ⟨aoZ, capZ, rfl⟩ := row_form HR2.out
              clear HLN HPX
              rcases hsay with ⟨rfl, rfl, vx, vy, hne, e1, e2⟩ | ⟨rfl, rfl, vx, e1, e2⟩ | ⟨rfl, rfl, vy, e1, e2⟩
              · have hneB : (vx == vy) = false := by simpa using hne
                clear hne
                as_aux_lemma =>
                  rw [e1] at CV
                  rw [e2] at CW
                  clear e1 e2
                  go_wp2_with fail
                  refine Calls.mono (show Calls _ _ _ _ _ from CV.out) ?_
                  rintro e wz ⟨rfl, rfl⟩
                  clear CV
                  go_wp2_with fail
                  refine Calls.mono (show Calls _ _ _ _ _ from CW.out) ?_
                  rintro e wz ⟨rfl, rfl⟩
                  clear CW
                  go_wp2_with (at_builtin; go_loud (refine wp_app_str rfl (.tmp 271) (.tmp 277) rfl HR2.out pp ⟨rfl, rfl, rfl, rfl⟩ rfl rfl (by omega) hz ?_))
                  intro v' w' hown' hb'
                  have HR : Hid (w'.ownsRow wp.heap.size 9 1 v' (k + 1) ((zs ++ [pp]).map SV)) := by rw [Hid, List.map_append]; exact hown'
                  have HBn : Hid (Below wp.heap.size wp w') := HB2.out.trans hb'
                  clear hown' hb'
                  go_wp2
                  go_roundw
                  case rel => exact ⟨k + 1, zs ++ [pp], by omega, by go_num, HZN.out, HR.out, HBn.out⟩
                  case measure => simp [intOf]; omega
              · as_aux_lemma =>
                  rw [e1] at CV
                  rw [e2] at CW
                  clear e1 e2
                  go_wp2_with fail
                  refine Calls.mono (show Calls _ _ _ _ _ from CV.out) ?_
                  rintro e wz ⟨rfl, rfl⟩
                  clear CV
                  go_wp2_with fail
                  refine Calls.mono (show Calls _ _ _ _ _ from CW.out) ?_
                  rintro e wz ⟨rfl, rfl⟩
                  clear CW
                  go_wp2_with (at_builtin; go_loud (refine wp_app_str rfl (.tmp 271) (.tmp 277) rfl HR2.out pp ⟨rfl, rfl, rfl, rfl⟩ rfl rfl (by omega) hz ?_))
                  intro v' w' hown' hb'
                  have HR : Hid (w'.ownsRow wp.heap.size 9 1 v' (k + 1) ((zs ++ [pp]).map SV)) := by rw [Hid, List.map_append]; exact hown'
                  have HBn : Hid (Below wp.heap.size wp w') := HB2.out.trans hb'
                  clear hown' hb'
                  go_wp2
                  go_roundw
                  case rel => exact ⟨k + 1, zs ++ [pp], by omega, by go_num, HZN.out, HR.out, HBn.out⟩
                  case measure => simp [intOf]; omega
              · as_aux_lemma =>
                  rw [e1] at CV
                  rw [e2] at CW
                  clear e1 e2
                  go_wp2_with fail
                  refine Calls.mono (show Calls _ _ _ _ _ from CV.out) ?_
                  rintro e wz ⟨rfl, rfl⟩
                  clear CV
                  go_wp2_with fail
                  refine Calls.mono (show Calls _ _ _ _ _ from CW.out) ?_
                  rintro e wz ⟨rfl, rfl⟩
                  clear CW
                  go_wp2_with (at_builtin; go_loud (refine wp_app_str rfl (.tmp 271) (.tmp 277) rfl HR2.out pp ⟨rfl, rfl, rfl, rfl⟩ rfl rfl (by omega) hz ?_))
                  intro v' w' hown' hb'
                  have HR : Hid (w'.ownsRow wp.heap.size 9 1 v' (k + 1) ((zs ++ [pp]).map SV)) := by rw [Hid, List.map_append]; exact hown'
                  have HBn : Hid (Below wp.heap.size wp w') := HB2.out.trans hb'
                  clear hown' hb'
                  go_wp2
                  go_roundw
                  case rel => exact ⟨k + 1, zs ++ [pp], by omega, by go_num, HZN.out, HR.out, HBn.out⟩
                  case measure => simp [intOf]; omega
      · as_aux_lemma =>
          have hki : ¬ (k : Int) < (ps.length : Int) := by omega
          have hke : k = ps.length := by omega
          have hza : zs = ps := by rw [HZS.out, hke, List.take_length]
          subst hza
          subst hke
          have HRZ := Hid.mk' hrow
          have HBZ := Hid.mk' hb
          obtain ⟨aoZ, capZ, rfl⟩ := row_form hrow
          have HVZ : Hid (FilesK w1.heap.size wr (.slice ao2 l.length cap2) l) := filesK_later HV8.out (hb.mono (Nat.le_refl _))
          have HWZ : Hid (FilesK w2.heap.size wr (.slice ao3 m.length cap3) m) := filesK_later HW8.out (hb.mono (Nat.le_refl _))
          have HKZ := Hid.mk' (HK8.out.below hb)
          have HCL := Hid.mk' (filesK_cells HVZ.out)
          have HCM := Hid.mk' (filesK_cells HWZ.out)
          have HCT := Hid.mk' HD.out.count
          have HPB := Hid.mk' HD.out.probe
          have HLP : Hid (∀ p ∈ zs, isPathL p = true ∧ p.length ≤ 44) := fun p hp => by
            obtain ⟨j, hj, rfl⟩ := List.getElem_of_mem hp
            exact (HD.out.line j hj).path
          have HCP := Hid.mk' (strs_cells HRZ.out)
          clear hrow hb HZS HD HCX HCY HV8 HW8 HK8 hk HX8 HY8 HT1 HT2 HZ1 HZ2
          clear hX hG
          generalize wr = wa at *
          go_wp2
          go_loopw [36, 37] (fun n i ww => ∃ (k c : Nat), k ≤ l.length ∧ i = .int .i64 k ∧ n = .int .i64 c ∧ c = (l.take k).countP (fun f => !(valueK m f.1).2 || !((valueK m f.1).1 == f.2)) ∧ ww = wa) (fun _ i _ => l.length - (intOf i).toNat)
          case atStart => exact ⟨0, 0, Nat.zero_le _, rfl, rfl, by simp, rfl⟩
          case round =>
            obtain ⟨k, c, hk, rfl, rfl, hc2, hw⟩ := hrel
            have hw' := hw.symm
            subst hw'
            clear hw
            have hcb : c ≤ k := by
              rw [hc2]
              exact Nat.le_trans List.countP_le_length (by simp; omega)
            have HCC := Hid.mk' hc2
            clear hc2
            by_cases hlt : k < l.length
            · as_aux_lemma =>
                have hki : (k : Int) < (l.length : Int) := by omega
                rcases HCL.out with ⟨_, h0⟩ | ⟨gf, cf, ef, hgf, hcf, hmf, hpf, hdf⟩
                · rw [h0] at hlt; simp at hlt
                simp only [Value.slice.injEq] at ef
                obtain ⟨rfl, -, rfl⟩ := ef
                have cpk := hpf k hlt
                have cdk := hdf k hlt
                have CV := Hid.mk' (kValue_any w2.heap.size m (.slice ao3 m.length cap3) l[k].1 wa HWZ.out)
                have HST : Hid (∀ b, (!(valueK m l[k].1).2 || !((valueK m l[k].1).1 == l[k].2)) = b → (l.take (k + 1)).countP (fun f => !(valueK m f.1).2 || !((valueK m f.1).1 == f.2)) = c + if b = true then 1 else 0) := fun b hb => count_take _ hlt HCC.out hb
                unfold maxLen at hmf
                clear hpf hdf
                generalize valueK m l[k].1 = vv at *
                generalize l[k].1 = pf at *
                generalize l[k].2 = df at *
                obtain ⟨vx, vy⟩ := vv
                simp only at CV HST
                go_wp2_with fail
                refine Calls.mono (show Calls _ _ _ _ _ from CV.out) ?_
                rintro e wa ⟨rfl, rfl⟩
                clear CV
                cases vy
                · have HN := Hid.mk' (HST.out true rfl)
                  clear HST
                  go_wp2
                  go_roundw
                  case rel => exact ⟨k + 1, c + 1, by omega, by go_num, by go_num, HN.out.symm, trivial⟩
                  case measure => simp [intOf]; omega
                · by_cases hvd : vx = df
                  · have HN := Hid.mk' (HST.out false (by simp [hvd]))
                    have hvd' := hvd.symm
                    subst hvd'
                    clear HST
                    go_wp2
                    go_roundw
                    case rel => exact ⟨k + 1, c, by omega, by go_num, rfl, HN.out.symm, trivial⟩
                    case measure => simp [intOf]; omega
                  · have hvB : (vx == df) = false := by simpa using hvd
                    have HN := Hid.mk' (HST.out true (by simp [hvB]))
                    clear HST
                    go_wp2
                    go_roundw
                    case rel => exact ⟨k + 1, c + 1, by omega, by go_num, by go_num, HN.out.symm, trivial⟩
                    case measure => simp [intOf]; omega
            · have hki : ¬ (k : Int) < (l.length : Int) := by omega
              have HCA : Hid (c = cntA l m) := by
                rw [Hid, HCC.out, List.take_of_length_le (by omega)]; rfl
              clear HCC HCL
              have HCM2 := HCM
              go_wp2
              go_loopw [36, 40] (fun n i wr => ∃ (k c2 : Nat), k ≤ m.length ∧ i = .int .i64 k ∧ n = .int .i64 c2 ∧ c2 = c + (m.take k).countP (fun f => !(valueK l f.1).2) ∧ wr = wa) (fun _ i _ => m.length - (intOf i).toNat)
              case atStart => exact ⟨0, c, Nat.zero_le _, rfl, rfl, by simp, rfl⟩
              case round =>
                obtain ⟨k3, c3, hk3, rfl, rfl, hc3, hw⟩ := hrel
                have hw' := hw.symm
                subst hw'
                clear hw
                have hcb3 : c3 ≤ c + k3 := by
                  rw [hc3]
                  exact Nat.add_le_add_left (Nat.le_trans List.countP_le_length (by simp; omega)) _
                have HC3 := Hid.mk' hc3
                clear hc3
                by_cases hlt3 : k3 < m.length
                · as_aux_lemma =>
                    have hki3 : (k3 : Int) < (m.length : Int) := by omega
                    rcases HCM.out with ⟨_, h0⟩ | ⟨gf, cf, ef, hgf, hcf, hmf, hpf, hdf⟩
                    · rw [h0] at hlt3; simp at hlt3
                    simp only [Value.slice.injEq] at ef
                    obtain ⟨rfl, -, rfl⟩ := ef
                    have cpk := hpf k3 hlt3
                    have CV := Hid.mk' (kValue_any w1.heap.size l (.slice ao2 l.length cap2) m[k3].1 wa HVZ.out)
                    have HST : Hid (∀ b, (!(valueK l m[k3].1).2) = b → c + (m.take (k3 + 1)).countP (fun f => !(valueK l f.1).2) = c3 + if b = true then 1 else 0) := fun b hb => by
                      rw [count_take (fun f => !(valueK l f.1).2) hlt3 rfl hb, HC3.out, Nat.add_assoc]
                    unfold maxLen at hmf
                    clear hpf hdf
                    generalize valueK l m[k3].1 = vv at *
                    generalize m[k3].1 = pf at *
                    obtain ⟨vx, vy⟩ := vv
                    simp only at CV HST
                    go_wp2_with fail
                    refine Calls.mono (show Calls _ _ _ _ _ from CV.out) ?_
                    rintro e wa ⟨rfl, rfl⟩
                    clear CV
                    cases vy
                    · have HN := Hid.mk' (HST.out true rfl)
                      clear HST
                      go_wp2
                      go_roundw
                      case rel => exact ⟨k3 + 1, c3 + 1, by omega, by go_num, by go_num, HN.out.symm, trivial⟩
                      case measure => simp [intOf]; omega
                    · have HN := Hid.mk' (HST.out false rfl)
                      clear HST
                      go_wp2
                      go_roundw
                      case rel => exact ⟨k3 + 1, c3, by omega, by go_num, rfl, HN.out.symm, trivial⟩
                      case measure => simp [intOf]; omega
                · as_aux_lemma =>
                    have hki3 : ¬ (k3 : Int) < (m.length : Int) := by omega
                    have hce : c3 = zs.length := by
                      rw [HC3.out, HCA.out, List.take_of_length_le (by omega)]
                      exact HCT.out
                    subst hce
                    have hpp := (pathK_ok (kN_lt cc (n := 84) (by omega))).1
                    have hpl2 := pathK_short (kN cc 84)
                    have HPR := Hid.mk' (HPB.out _ hpp)
                    have CSM : Hid (∀ W, Below wa.heap.size wa W → Calls Tryz.prog 29 #[ptrV T.sb, .int .i64 (n : Int), .int .i64 (n2 : Int), SV (pathK (kN cc 84))] W fun e w' => SameOut W (sameF l m (pathK (kN cc 84))) e w') := fun W hW => by
                      have := storeSame_any T r (n : Int) (n2 : Int) (pathK (kN cc 84)) W (HKZ.out.ok.below hW) HKZ.out.ag (by unfold maxLen; omega)
                      rw [HSM.out _ (place_paths ⟨kN cc 84, kN_lt cc (by omega)⟩)] at this
                      exact this
                    have HRP := Hid.mk' (path_ne_root hpp)
                    have CPP := Hid.mk' (kPath_any cc wa hc)
                    have HBZ0 : Hid (Below w.heap.size w wa) := HKZ.out.base
                    clear hpp HC3 HCA HCT HPB HCM HCM2 hlt3 hk3 hcb3
                    generalize pathK (kN cc 84) = p at *
                    go_wp2_with fail
                    refine Calls.mono (show Calls _ _ _ _ _ from CPP.out) ?_
                    rintro e wq ⟨rfl, hbq⟩
                    have HBQ := Hid.mk' hbq
                    have CS := Hid.mk' (CSM.out wq hbq)
                    clear hbq CPP CSM
                    rcases HPR.out with e | e
                    · rw [e] at CS
                      clear e HPR
                      go_wp2_with fail
                      refine Calls.mono (show Calls _ _ _ _ _ from CS.out) ?_
                      rintro e w9 ⟨rfl, hb9⟩
                      have R : Hid (KBool w true (.returned (.bool true)) w9) := ⟨rfl, HBZ0.out.trans ((HBQ.out.trans (hb9.mono HBQ.out.size)).mono HBZ0.out.size)⟩
                      clear hb9 CS
                      go_wp2
                      go_ret
                      exact R.out
                    · rw [e] at CS
                      clear e HPR
                      obtain ⟨tb, htb⟩ : ∃ tb, (zs.any fun f => ((f == p) || !(belowL f p).isEmpty) || !(belowL p f).isEmpty) = tb := ⟨_, rfl⟩
                      have HTB := Hid.mk' htb
                      rw [htb] at CS
                      clear htb
                      go_wp2_with fail
                      refine Calls.mono (show Calls _ _ _ _ _ from CS.out) ?_
                      rintro e w9 ⟨rfl, hb9⟩
                      have HB9 : Hid (Below wa.heap.size wa w9) := HBQ.out.trans (hb9.mono HBQ.out.size)
                      clear hb9 CS HBQ
                      go_wp2
                      go_loopw [46, 47] (fun t i wr => ∃ (k : Nat) (b : Bool), k ≤ zs.length ∧ i = .int .i64 k ∧ t = .bool b ∧ b = ((zs.take k).any fun f => ((f == p) || !(belowL f p).isEmpty) || !(belowL p f).isEmpty) ∧ wr = w9) (fun _ i _ => zs.length - (intOf i).toNat)
                      case atStart => exact ⟨0, false, Nat.zero_le _, rfl, rfl, by simp, rfl⟩
                      case round =>
                        obtain ⟨k4, b4, hk4, rfl, rfl, hb4, hw⟩ := hrel
                        have hw' := hw.symm
                        subst hw'
                        clear hw
                        have HB4 := Hid.mk' hb4
                        clear hb4
                        by_cases hlt4 : k4 < zs.length
                        · as_aux_lemma =>
                            have hki4 : (k4 : Int) < (zs.length : Int) := by omega
                            rcases HCP.out with ⟨_, h0, _⟩ | ⟨gP, cP, eP, hnP, hgP, _, hcP, hmP, hpP⟩
                            · omega
                            simp only [Value.slice.injEq] at eP
                            obtain ⟨rfl, -, rfl⟩ := eP
                            clear hnP
                            have cj : w9.cell? ⟨gP, k4, none⟩ = some (SV zs[k4]) := (HB9.out.cell (p := ⟨gP, k4, none⟩) hgP).trans (hpP k4 hlt4)
                            have hgr : gP < w9.heap.size := Nat.lt_of_lt_of_le hgP HB9.out.size
                            have hfp := HLP.out zs[k4] (List.getElem_mem hlt4)
                            have hfl := hfp.2
                            have CB1 := Hid.mk' (kBelow_any zs[k4] p w9 (by unfold maxLen; omega) (by unfold maxLen; omega) HRP.out)
                            have CB2 := Hid.mk' (kBelow_any p zs[k4] w9 (by unfold maxLen; omega) (by unfold maxLen; omega) (path_ne_root hfp.1))
                            have HAS : Hid (∀ x, (((zs[k4] == p) || !(belowL zs[k4] p).isEmpty) || !(belowL p zs[k4]).isEmpty) = x → ((zs.take (k4 + 1)).any fun f => ((f == p) || !(belowL f p).isEmpty) || !(belowL p f).isEmpty) = (b4 || x)) := fun x hx => by
                              rw [any_take _ hlt4, hx, HB4.out]
                            unfold maxLen at hmP
                            clear hpP hfp HB4
                            generalize zs[k4] = f at *
                            cases b4
                            · by_cases hfe : f = p
                              · have HN := Hid.mk' (HAS.out true (by simp [hfe]))
                                have hfe' := hfe.symm
                                subst hfe'
                                clear HAS CB1 CB2
                                go_wp2
                                go_roundw
                                case rel => exact ⟨k4 + 1, true, by omega, by go_num, rfl, HN.out.symm, trivial⟩
                                case measure => simp [intOf]; omega
                              · have hfB : (f == p) = false := by simpa using hfe
                                rcases h1 : belowL f p with _ | ⟨x1, r1⟩
                                · rw [h1] at CB1 HAS
                                  clear h1
                                  rcases h2 : belowL p f with _ | ⟨x2, r2⟩
                                  · rw [h2] at CB2 HAS
                                    have HN := Hid.mk' (HAS.out false (by simp [hfB]))
                                    clear h2 HAS
                                    go_wp2_with fail
                                    refine Calls.mono (show Calls _ _ _ _ _ from CB1.out) ?_
                                    rintro e w9 ⟨rfl, rfl⟩
                                    clear CB1
                                    go_wp2_with fail
                                    refine Calls.mono (show Calls _ _ _ _ _ from CB2.out) ?_
                                    rintro e w9 ⟨rfl, rfl⟩
                                    clear CB2
                                    go_wp2
                                    go_roundw
                                    case rel => exact ⟨k4 + 1, false, by omega, by go_num, rfl, HN.out.symm, trivial⟩
                                    case measure => simp [intOf]; omega
                                  · rw [h2] at CB2 HAS
                                    have HN := Hid.mk' (HAS.out true (by simp))
                                    clear h2 HAS
                                    go_wp2_with fail
                                    refine Calls.mono (show Calls _ _ _ _ _ from CB1.out) ?_
                                    rintro e w9 ⟨rfl, rfl⟩
                                    clear CB1
                                    go_wp2_with fail
                                    refine Calls.mono (show Calls _ _ _ _ _ from CB2.out) ?_
                                    rintro e w9 ⟨rfl, rfl⟩
                                    clear CB2
                                    go_wp2
                                    go_roundw
                                    case rel => exact ⟨k4 + 1, true, by omega, by go_num, rfl, HN.out.symm, trivial⟩
                                    case measure => simp [intOf]; omega
                                · rw [h1] at CB1 HAS
                                  have HN := Hid.mk' (HAS.out true (by simp))
                                  clear h1 HAS CB2
                                  go_wp2_with fail
                                  refine Calls.mono (show Calls _ _ _ _ _ from CB1.out) ?_
                                  rintro e w9 ⟨rfl, rfl⟩
                                  clear CB1
                                  go_wp2
                                  go_roundw
                                  case rel => exact ⟨k4 + 1, true, by omega, by go_num, rfl, HN.out.symm, trivial⟩
                                  case measure => simp [intOf]; omega
                            · have HN := Hid.mk' (HAS.out _ rfl)
                              rw [Bool.true_or] at HN
                              clear HAS CB1 CB2
                              go_wp2
                              go_roundw
                              case rel => exact ⟨k4 + 1, true, by omega, by go_num, rfl, HN.out.symm, trivial⟩
                              case measure => simp [intOf]; omega
                        · as_aux_lemma =>
                            have hki4 : ¬ (k4 : Int) < (zs.length : Int) := by omega
                            have hbt : b4 = tb := by rw [HB4.out, show k4 = zs.length from by omega, List.take_length]; exact HTB.out
                            have R : Hid (KBool w true (.returned (.bool true)) w9) := ⟨rfl, HBZ0.out.trans (HB9.out.mono HBZ0.out.size)⟩
                            subst hbt
                            clear HB4 HTB HB9
                            cases b4
                            · go_wp2
                              go_ret
                              exact R.out
                            · go_wp2
                              go_ret
                              exact R.out

end Go.Proofs.YtdcbgfhkfmohiaaGreatDoor
