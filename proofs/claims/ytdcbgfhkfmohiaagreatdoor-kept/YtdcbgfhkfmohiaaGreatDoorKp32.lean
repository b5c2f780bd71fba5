/- Kept: the walk. -/
import Derived.Test.YtdcbgfhkfmohiaaGreatDoorKb31
import Derived.Deep.DeepCutAuto
namespace Go.Proofs.YtdcbgfhkfmohiaaGreatDoor
open Go.RowKit
attribute [local go_sem] Oper.semAt_some

set_option maxHeartbeats 32000000 in
set_option maxRecDepth 50000 in
theorem kKept_any (v : Value) (len : Nat) (O : Nat → KStep) (vr : Value) (rl : Nat) (R : Nat → Int) (w : World) (h : StepsAt w v len O) (hok : ∀ i, i < len → (O i).ok) (hlen : len ≤ 2000000000000000) (hr : IntsAt w vr rl R) (hrk : ∀ i, i < rl → kIn (R i)) (_hrl : rl ≤ 2000000000000000) (hmx : MaxOk w) :
    Calls Tryz.prog 6 #[v, vr] w fun e w' => KBool w true e w' := by
  have C1 := kFirst_any v len O w h hlen
  have C2 := kAwake_any (firstK len O) w (kIn_first hok) hmx
  obtain ⟨ao, cap, rfl, hc⟩ := h
  obtain ⟨aor, capr, rfl, hcr⟩ := hr
  have HC : Hid _ := hc
  have HCR : Hid _ := hcr
  have HOK : Hid _ := hok
  have HRK : Hid _ := hrk
  have HMX : Hid _ := hmx
  clear hc hok hmx hcr hrk
  generalize firstK len O = c0 at *
  go_enter Tryz.func6, Tryz.ntmps6
  go_wp2_with fail
  refine C1.mono ?_
  rintro e w ⟨rfl, rfl⟩
  go_wp2_with fail
  refine C2.mono ?_
  rintro e w1 ⟨T, rfl, hT⟩
  have HT : Hid (KAt w w1 T kR0) := hT
  have hbase2 : w.heap.size ≤ ((w1.alloc (.cells #[.int .i64 0] 3)).alloc (.cells #[.bool true] 4)).heap.size := by have := hT.base.size; simp; omega
  have HN : Hid (((w1.alloc (.cells #[.int .i64 0] 3)).alloc (.cells #[.bool true] 4)).ownsRow w.heap.size 39 1 (.slice none 0 0) 0 []) := World.ownsRow_nil _ _ _ _
  have HZ : Hid (((w1.alloc (.cells #[.int .i64 0] 3)).alloc (.cells #[.bool true] 4)).heap.size = w1.heap.size + 1 + 1) := by rw [Hid]; simp
  clear hT C1 C2
  go_wp2_with (at_builtin; go_loud (refine wp_app_at 31 39 _ 1 24 Tryz.infoKFs Tryz.underlying31 rfl (by decide) rfl (.tmp 28) (.tmp 29) rfl (base := w.heap.size) HN.out [.slice none 0 0] rfl (by intro u hu; simp at hu; subst hu; rfl) ⟨rfl, rfl, rfl, rfl⟩ rfl (by rw [HZ.out]; rfl) (by unfold maxLen; omega) (by omega) hbase2 ?_))
  intro s0 w5 hs1 hs2 hs3
  have HK0 : Hid _ := kept_start HT.out hs1 hs2 hs3
  have CC : Hid (Calls Tryz.prog 16 #[ptrV T.sb] w5 fun e w' => e = .returned (.int .i64 (cellsOf kR0 : Nat)) ∧ ∃ n, w' = w5.drewN n) := by
    have h5 := HK0.out.st
    have := bankCells_any T w5 h5.ok.at' (by have := h5.ok.room; omega)
    rw [← Agree.cells h5.ok h5.ag] at this
    exact this
  clear hs1 hs2 hs3 HN HT hbase2
  generalize hsb : T.sb = sb at *
  generalize hc00 : cellsOf kR0 = c00 at *
  have HC00 : Hid _ := hc00
  clear hc00
  go_wp2_with fail
  refine Calls.mono (show Calls _ _ _ _ _ from CC.out) ?_
  rintro e w6 ⟨rfl, n6, rfl⟩
  have HK6 : Hid _ := HK0.out.below (w' := w5.drewN n6) (below_like rfl rfl rfl rfl)
  clear CC HK0
  generalize w5.drewN n6 = w6 at *
  go_wp2
  go_loopw [6, 7, 8, 10] (fun a t s i wr => ∃ (k : Nat) (T' : Bank) (r : RSt) (ns : List Nat) (ts : List Bool) (ws : List (List Fl)) (vs : List Value), k ≤ len ∧ i = .int .i64 k ∧ T'.sb = sb ∧ ns.length ≤ 40 ∧ KeptAt w wr T' r a t s ns ts ws vs) (fun _ _ _ i _ => len - (intOf i).toNat)
  case atStart => exact ⟨0, T, kR0, [0], [true], [[]], [.slice none 0 0], Nat.zero_le _, rfl, hsb, by simp, HK6.out⟩
  case round =>
    obtain ⟨k, T', r, ns, ts, ws, vs, hk, rfl, rfl, h40, hK⟩ := hrel
    clear HK6 hsb T
    have hpos : 0 < ns.length := List.length_pos_iff.2 hK.pu.ne
    obtain ⟨ga, ca, rfl, hga, _, hca, hma, hcella⟩ := ints_cells hK.m.ra hK.pu.ne
    obtain ⟨gt, ct, rfl, hgt, hct, hmt, hcellt⟩ := bools_cells hK.m.rt hpos
    obtain ⟨gs, cs, rfl, hgs, hcs, hms, hcells⟩ := filesR_cells hK.m.rs hpos
    have HK : Hid _ := hK
    have HCA : Hid _ := hcella
    have HCT : Hid _ := hcellt
    have HCS : Hid _ := hcells
    clear hK hcella hcellt hcells
    unfold maxLen at hma hmt hms
    go_upto_region 10 with fail
    go_cut [41] (fun c wc => c = .bool (decide (k < len ∧ ns.length < 40)) ∧ wc = wr)
    case first =>
      by_cases hlt : k < len
      · have hki : (k : Int) < (len : Int) := by omega
        by_cases h40' : ns.length < 40
        · have h40i : (ns.length : Int) < 40 := by omega
          go_wp2
          go_meet
          case rel => exact ⟨by simp [hlt, h40'], rfl⟩
        · have h40i : ¬ (ns.length : Int) < 40 := by omega
          go_wp2
          go_meet
          case rel => exact ⟨by simp [h40'], rfl⟩
      · have hki : ¬ (k : Int) < (len : Int) := by omega
        go_wp2
        go_meet
        case rel => exact ⟨by simp [hlt], rfl⟩
    case rest =>
      obtain ⟨rfl, rfl⟩ := hcut
      by_cases hgo : k < len ∧ ns.length < 40
      · obtain ⟨hlt, hl40⟩ := id hgo
        rw [decide_eq_true hgo]
        have hki : (k : Int) < (len : Int) := by omega
        clear hgo
        obtain ⟨gs', os, rfl, hgs', c0', c1, c2, c3⟩ := HC.out k hlt
        have hok := HOK.out k hlt
        have hb0 := HK.out.st.base
        have hw : ∀ j, wc.cell? ⟨gs', j, none⟩ = w.cell? ⟨gs', j, none⟩ := fun j => hb0.cell (p := ⟨gs', j, none⟩) hgs'
        have d0 : wc.cell? ⟨gs', os + k * 4, none⟩ = some (.int .i64 (O k).K) := (hw _).trans c0'
        have d1 : wc.cell? ⟨gs', os + k * 4 + 1, none⟩ = some (.int .i64 (O k).From) := (hw _).trans c1
        have d2 : wc.cell? ⟨gs', os + k * 4 + 2, none⟩ = some (.int .i64 (O k).A) := (hw _).trans c2
        have d3 : wc.cell? ⟨gs', os + k * 4 + 3, none⟩ = some (.int .i64 (O k).B) := (hw _).trans c3
        have CK := kPick_any (O k).From ns.length wc hok.2.1 hpos (by omega)
        have hq := kN_lt (O k).From hpos
        generalize kN (O k).From ns.length = q at *
        have hqi : (q : Int) < (ns.length : Int) := by omega
        have da : wc.cell? ⟨ga, q, none⟩ = some (.int .i64 (ns[q] : Int)) := HCA.out q hq
        have hqt : q < ts.length := by rw [HK.out.pu.lt']; exact hq
        have CE : Hid (∀ W, Below wc.heap.size wc W → Calls Tryz.prog 18 #[ptrV T'.sb, .int .i64 (ns[q] : Int), (O k).val] W fun e w' => StepOut W.heap.size W T' (playR r (ns[q] : Int) (O k)) e w') := fun W hW =>
          kPlay_any T' r (ns[q] : Int) (O k) W (HK.out.st.ok.below hW) HK.out.st.ag (by rw [HK.out.st.ag.made]; have := HK.out.pu.made; omega) hok
        have HNQ : Hid (ns[q]? = some ns[q]) := List.getElem?_eq_getElem hq
        have hgr : gs' < wc.heap.size := Nat.lt_of_lt_of_le hgs' hb0.size
        have KX : Hid (∀ (W : World) (T2 : Bank), Ext wc.heap.size wc T' W T2 → (∀ j, W.cell? ⟨gs', j, none⟩ = wc.cell? ⟨gs', j, none⟩) ∧ W.cell? ⟨ga, q, none⟩ = wc.cell? ⟨ga, q, none⟩) := fun W T2 hX =>
          ⟨fun j => World.cell?_of_block (a := ⟨gs', j, none⟩) (hX.blk gs' hgr fun ho => by have := HK.out.st.hi gs' ho; omega), World.cell?_of_block (a := ⟨ga, q, none⟩) (hX.blk ga hga (HK.out.m.oa ga rfl).1.1)⟩
        clear hb0 hw c0' c1 c2 c3 HCA HCT HCS
        generalize O k = o at *
        generalize ns[q] = nq at *
        have KS : Hid (∀ (W : World) (T2 : Bank), Ext wc.heap.size wc T' W T2 → W.cell? ⟨gs', os + k * 4, none⟩ = some (.int .i64 o.K) ∧ W.cell? ⟨gs', os + k * 4 + 1, none⟩ = some (.int .i64 o.From) ∧ W.cell? ⟨gs', os + k * 4 + 2, none⟩ = some (.int .i64 o.A) ∧ W.cell? ⟨gs', os + k * 4 + 3, none⟩ = some (.int .i64 o.B) ∧ W.cell? ⟨ga, q, none⟩ = some (.int .i64 (nq : Int))) := fun W T2 hX => ⟨((KX.out W T2 hX).1 _).trans d0, ((KX.out W T2 hX).1 _).trans d1, ((KX.out W T2 hX).1 _).trans d2, ((KX.out W T2 hX).1 _).trans d3, (KX.out W T2 hX).2.trans da⟩
        unfold KStep.val at CE
        go_wp2_with fail
        refine CK.mono ?_
        rintro e wc ⟨rfl, rfl⟩
        generalize wc = wx at *
        go_upto_region 13 with fail
        go_cut [12, 13] (fun x y wd => ∃ (T2 : Bank), x = .int .i64 ((playR r (nq : Int) o).2.1 : Nat) ∧ y = .int .i64 ((playR r (nq : Int) o).2.2 : Nat) ∧ Okay wd T2 ∧ Agree T2 (playR r (nq : Int) o).1 ∧ Ext wx.heap.size wx T' wd T2)
        case first =>
          go_region_held3 (fun W : World => W.cell? ⟨gs', os + k * 4, none⟩ = some (.int .i64 o.K) ∧ W.cell? ⟨gs', os + k * 4 + 1, none⟩ = some (.int .i64 o.From) ∧ W.cell? ⟨gs', os + k * 4 + 2, none⟩ = some (.int .i64 o.A) ∧ W.cell? ⟨gs', os + k * 4 + 3, none⟩ = some (.int .i64 o.B) ∧ W.cell? ⟨ga, q, none⟩ = some (.int .i64 (nq : Int))) (first | exact HS3.out | go_keep)
            (first | (go_at_call 18; refine (CE.out _ (Below.refl _ _).drew).mono ?_; rintro e w3 ⟨T2, rfl, h2, h3, h4⟩; have h4' : Ext wx.heap.size wx T' w3 T2 := ⟨h4.os, h4.tape, h4.output, h4.size, h4.four, h4.blk, h4.own⟩; have HS3 := Hid.mk' (KS.out _ _ h4'); have HR3 := Hid.mk' (And.intro h2 (And.intro h3 h4')); clear h2 h3 h4 h4'))
          all_goals
            go_wp2_with fail
            go_meet
            case rel => exact ⟨T2, rfl, rfl, HR3.out⟩
        case rest =>
          obtain ⟨T2, rfl, rfl, h2, h3, h4⟩ := hcut
          have HS2 : Hid (T2.sb = T'.sb) := h4.four.1
          have HKA := Hid.mk' (HK.out.st.edit h2 h3 h4)
          have HM := Hid.mk' (HK.out.m.edit h4)
          have HG := Hid.mk' (play_grew r (nq : Int) o)
          have HPN : Hid (findL r.all (nq : Int) = none → playR r (nq : Int) o = (r, 0, 2)) := play_none o
          have HFD := Hid.mk' (HK.out.pu.find q nq HNQ.out)
          have HPU := Hid.mk' HK.out.pu
          have dt : wc.cell? ⟨gt, q, none⟩ = some (.bool ts[q]) := HM.out.cellT hq hqt
          have hga2 : ga < wc.heap.size := Nat.lt_of_lt_of_le hga h4.size
          have hgt2 : gt < wc.heap.size := Nat.lt_of_lt_of_le hgt h4.size
          have htq : ts[q]? = some ts[q] := List.getElem?_eq_getElem hqt
          rw [htq] at HFD
          clear h2 h3 h4 CK CE KX KS d0 d1 d2 d3 da HK htq
          generalize ts[q] = bq at *
          cases bq
          · have e2 : playR r (nq : Int) o = (r, 0, 2) := HPN.out (by rw [HFD.out]; simp)
            rw [e2] at HKA ⊢
            clear e2 HG HPN HFD
            go_wp2
            go_roundw
            case rel => exact ⟨k + 1, T2, r, ns, ts, ws, vs, by omega, by go_num, HS2.out, h40, ⟨HKA.out, HPU.out, HM.out⟩⟩
            case measure => simp [intOf]; omega
          · generalize playR r (nq : Int) o = oo at *
            obtain ⟨r', m, er⟩ := oo
            simp only at HKA ⊢
            rw [← HS2.out]
            clear HPN HFD
            go_upto_if 73 with fail
            go_cut [6, 7, 8] (fun a' t' s' we => ∃ (T3 : Bank) (r3 : RSt) (ns3 : List Nat) (ts3 : List Bool) (ws3 : List (List Fl)) (vs3 : List Value), T3.sb = T2.sb ∧ ns3.length ≤ 40 ∧ KeptAt w we T3 r3 a' t' s' ns3 ts3 ws3 vs3)
            case first =>
              by_cases her : er = 0
              · subst her
                have HY : Hid (∃ l, r' = { r with all := r.all ++ [(r.made, l)], made := r.made + 1 } ∧ m = r.made) := by
                  have := HG.out
                  cases this with
                  | no _ he => exact absurd rfl he
                  | yes l _ _ _ => exact ⟨l, rfl, rfl⟩
                obtain ⟨l, rfl, rfl⟩ := HY.out
                have HFL : Hid (findL (r.all ++ [(r.made, l)]) (r.made : Int) = some l) := findL_app fun x hx e => by have := HPU.out.lt _ (HPU.out.cov x hx); omega
                have CU : Hid (Calls Tryz.prog 19 #[ptrV T2.sb, .int .i64 (r.made : Int)] wc fun e w' => KDump wc (some l) e w') := by
                  have := kDump_any T2 _ (r.made : Int) wc HKA.out.ok HKA.out.ag (HKA.out.max HMX.out)
                  rw [HFL.out] at this
                  exact this
                clear HG HY HFL
                go_wp2_with fail
                refine Calls.mono (show Calls _ _ _ _ _ from CU.out) ?_
                rintro e w4 ⟨hb4, v4, rfl, hv4⟩
                have HK4 := Hid.mk' (HKA.out.below hb4)
                have HM4 := Hid.mk' (HM.out.below hb4)
                have HV4 : Hid (FilesK w.heap.size w4 v4 l) := ownsRow_le hv4 HKA.out.base.size
                have HVO : Hid (∀ k, v4.ownBlock = some k → (¬ T2.own k ∧ k ≠ T2.rr) ∧ (Value.slice (some ⟨ga, 0, none⟩) ns.length ca).ownBlock ≠ some k ∧ (Value.slice (some ⟨gt, 0, none⟩) ns.length ct).ownBlock ≠ some k ∧ (Value.slice (some ⟨gs, 0, none⟩) ns.length cs).ownBlock ≠ some k) := fun k hk => by
                  have h1 := (World.ownsRow.lt hv4 k hk).1
                  refine ⟨⟨fun ho => by have := HKA.out.lt ho; omega, fun e => by have := HKA.out.rlt; omega⟩, fun e => ?_, fun e => ?_, fun e => ?_⟩
                  · have := (HM.out.ra.lt k e).2; omega
                  · have := (HM.out.rt.lt k e).2; omega
                  · have := (HM.out.rs.lt k e).2; omega
                have hbase4 : w.heap.size ≤ w4.heap.size := HK4.out.base.size
                obtain ⟨ao4, cap4, rfl⟩ := row_form hv4
                have HPU2 := Hid.mk' (HPU.out.more l)
                clear hb4 hv4 CU HKA HM HPU dt
                generalize hmm : r.made = mm at *
                have hml : (l.length : Int) = (l.length : Int) := rfl
                go_wp2_with (at_builtin; go_loud (refine wp_app_at 26 3 _ 1 8 Tryz.infoInt Tryz.underlying26 rfl (by decide) rfl (.tmp 82) (.tmp 84) rfl (base := w.heap.size) HM4.out.ra [.int .i64 (mm : Int)] rfl (by intro u hu; simp at hu; subst hu; rfl) ⟨rfl, rfl, rfl, rfl⟩ rfl rfl (by unfold maxLen; omega) (by omega) hbase4 ?_))
                intro a5 w5 ha1 ha2 ha3
                have HA5 := Hid.mk' (And.intro ha1 (And.intro ha2 ha3))
                have HT5 : Hid (w5.ownsRow w.heap.size 4 1 (.slice (some ⟨gt, 0, none⟩) ns.length ct) ns.length (boolsV ts)) := rowKept HM4.out.rt fun j hj => ha2.block j (HM4.out.rt.lt j hj).2 fun e => (HM4.out.oa j e.symm).2.1 hj
                have HS5 : Hid (w5.ownsRow w.heap.size 39 1 (.slice (some ⟨gs, 0, none⟩) ns.length cs) ns.length vs) := rowKept HM4.out.rs fun j hj => ha2.block j (HM4.out.rs.lt j hj).2 fun e => (HM4.out.oa j e.symm).2.2 hj
                have hbase5 : w.heap.size ≤ w5.heap.size := Nat.le_trans hbase4 ha2.size
                have ha5f := row_form ha1
                obtain ⟨ao5, cap5, rfl⟩ := ha5f
                clear ha1 ha2 ha3
                go_wp2_with (at_builtin; go_loud (refine wp_app_at 30 4 _ 1 1 Tryz.infoKB Tryz.underlying30 rfl (by decide) rfl (.tmp 86) (.tmp 87) rfl (base := w.heap.size) HT5.out [.bool true] rfl (by intro u hu; simp at hu; subst hu; rfl) ⟨rfl, rfl, rfl, rfl⟩ rfl rfl (by unfold maxLen; omega) (by omega) hbase5 ?_))
                intro t6 w6 ht1 ht2 ht3
                have HA6 := Hid.mk' (And.intro ht1 (And.intro ht2 ht3))
                have HS6 : Hid (w6.ownsRow w.heap.size 39 1 (.slice (some ⟨gs, 0, none⟩) ns.length cs) ns.length vs) := rowKept HS5.out fun j hj => ht2.block j (HS5.out.lt j hj).2 fun e => (HM4.out.ot j e.symm).2 hj
                have hbase6 : w.heap.size ≤ w6.heap.size := Nat.le_trans hbase5 ht2.size
                have ht6f := row_form ht1
                obtain ⟨ao6, cap6, rfl⟩ := ht6f
                clear ht1 ht2 ht3
                go_wp2_with (at_builtin; go_loud (refine wp_app_at 31 39 _ 1 24 Tryz.infoKFs Tryz.underlying31 rfl (by decide) rfl (.tmp 89) (.tmp 91) rfl (base := w.heap.size) HS6.out [.slice ao4 l.length cap4] rfl (by intro u hu; simp at hu; subst hu; rfl) ⟨rfl, rfl, rfl, rfl⟩ rfl rfl (by unfold maxLen; omega) (by omega) hbase6 ?_))
                intro s7 w7 hs1 hs2 hs3
                have HF := Hid.mk' (HM4.out.push HK4.out HPU2.out HV4.out HVO.out HA5.out.1 HA5.out.2.1 HA5.out.2.2 HA6.out.1 HA6.out.2.1 HA6.out.2.2 hs1 hs2 hs3)
                have hs7f := row_form hs1
                obtain ⟨ao7, cap7, rfl⟩ := hs7f
                clear hs1 hs2 hs3
                go_wp2
                go_meet
                case rel => exact ⟨T2, _, _, _, _, _, rfl, by simp; omega, HF.out⟩
              · have heri : ¬ (er : Int) = 0 := by omega
                have hre : r' = r := by
                  have := HG.out
                  cases this with
                  | no _ _ => rfl
                  | yes _ _ _ _ => exact absurd rfl her
                subst hre
                clear HG
                go_wp2
                go_meet
                case rel => exact ⟨T2, r', ns, ts, ws, vs, rfl, h40, ⟨HKA.out, HPU.out, HM.out⟩⟩
            case rest =>
              obtain ⟨T3, r3, ns3, ts3, ws3, vs3, hs3, h43, hK3⟩ := hcut
              clear HKA HM HG HPU dt hpos hq hqi hqt h40 hl40 hga hgt hgs hca hct hcs hma hmt hms hga2 hgt2 hgr
              have hpos3 : 0 < ns3.length := List.length_pos_iff.2 hK3.pu.ne
              obtain ⟨ga3, ca3, gt3, ct3, gs3, cs3, ea3, et3, es3, ⟨hga3, hgt3, hgs3⟩, ⟨hca3, hma3⟩, ⟨hct3, hmt3⟩, hcs3, hms3⟩ := hK3.m.forms hpos3
              subst ea3 et3 es3
              unfold maxLen at hma3 hmt3 hms3
              have HK3 := Hid.mk' hK3
              have HS3 := Hid.mk' hs3
              rw [← hs3]
              clear hK3 hs3
              generalize wc = wy at *
              go_upto_if 96 with fail
              go_cut [7] (fun t' wf => ∃ (T4 : Bank) (r4 : RSt) (ts4 : List Bool), t' = .slice (some ⟨gt3, 0, none⟩) ns3.length ct3 ∧ T4.sb = T3.sb ∧ KeptAt w wf T4 r4 (.slice (some ⟨ga3, 0, none⟩) ns3.length ca3) (.slice (some ⟨gt3, 0, none⟩) ns3.length ct3) (.slice (some ⟨gs3, 0, none⟩) ns3.length cs3) ns3 ts4 ws3 vs3)
              case first =>
                by_cases hkr : k < rl
                · have hkri : (k : Int) < (rl : Int) := by omega
                  obtain ⟨gr, orr, rfl, hgr, cr⟩ := HCR.out k hkr
                  have hrk := HRK.out k hkr
                  have crr : wy.cell? ⟨gr, orr + k, none⟩ = some (.int .i64 (R k)) := (HK3.out.st.base.cell (p := ⟨gr, orr + k, none⟩) hgr).trans cr
                  have CK := kPick_any (R k) (3 * ns3.length) wy hrk (by omega) (by omega)
                  have hz := kN_lt (R k) (show 0 < 3 * ns3.length by omega)
                  generalize kN (R k) (3 * ns3.length) = z at *
                  rw [show ((3 * ns3.length : Nat) : Int) = 3 * (ns3.length : Int) from by omega] at CK
                  have hzb : (z : Int) < 1000 := by omega
                  clear cr hz
                  generalize R k = rk at *
                  go_wp2_with fail
                  refine CK.mono ?_
                  rintro e wy ⟨rfl, rfl⟩
                  clear CK crr
                  by_cases hzn : 1 + z < ns3.length
                  · obtain ⟨y, hy⟩ : ∃ y, y = 1 + z := ⟨_, rfl⟩
                    have ez : (1 : Int) + (z : Int) = (y : Int) := by omega
                    have hyi : (y : Int) < (ns3.length : Int) := by omega
                    have hy0 : 0 < y := by omega
                    rw [← hy] at hzn
                    clear hy
                    have hzt : y < ts3.length := by rw [HK3.out.pu.lt']; exact hzn
                    have dz : wy.cell? ⟨ga3, y, none⟩ = some (.int .i64 (ns3[y] : Int)) := HK3.out.m.cellA hzn
                    have HNZ : Hid (ns3[y]? = some ns3[y]) := List.getElem?_eq_getElem hzn
                    have HTZ : Hid (ts3[y]? = some ts3[y]) := List.getElem?_eq_getElem hzt
                    have HRG := Hid.mk' (HK3.out.pu.gone HNZ.out hy0)
                    have CR : Hid (Calls Tryz.prog 20 #[ptrV T3.sb, .int .i64 (ns3[y] : Int)] wy fun e w' => StepOut1 wy.heap.size wy T3 (releaseR r3 (ns3[y] : Int)) e w') := storeRelease_any T3 r3 (ns3[y] : Int) wy HK3.out.st.ok HK3.out.st.ag
                    generalize ns3[y] = nz at *
                    go_wp2_with fail
                    refine Calls.mono (show Calls _ _ _ _ _ from CR.out) ?_
                    rintro e w8 ⟨T4, rfl, h1, h2, h3⟩
                    have HK8 : Hid (KAt w w8 T4 (releaseR r3 (nz : Int)).1) := HK3.out.st.edit h1 h2 h3
                    have HM8 := Hid.mk' (HK3.out.m.edit h3)
                    have HS4 : Hid (T4.sb = T3.sb) := h3.four.1
                    have dt8 : w8.cell? ⟨gt3, y, none⟩ = some (.bool ts3[y]) := HM8.out.cellT hzn hzt
                    have fz8 : w8.frozen? ⟨gt3, y, none⟩ = false := HM8.out.rt.frozenAt _
                    have hgt8 : gt3 < w8.heap.size := Nat.lt_of_lt_of_le hgt3 h3.size
                    have HF : Hid (∀ b, ts3[y] = b → (releaseR r3 (nz : Int)).2 = if b = true then 0 else 2) := fun b hb => by
                      have := HRG.out.2
                      rw [HTZ.out, hb] at this
                      simpa using this
                    have HFIN : Hid (KeptAt w (w8.setCell ⟨gt3, y, none⟩ (.bool false)) T4 (releaseR r3 (nz : Int)).1 (.slice (some ⟨ga3, 0, none⟩) ns3.length ca3) (.slice (some ⟨gt3, 0, none⟩) ns3.length ct3) (.slice (some ⟨gs3, 0, none⟩) ns3.length cs3) ns3 (ts3.set (y) false) ws3 vs3) := by
                      exact KeptAt.unset HK8.out HM8.out HRG.out.1
                    clear h1 h2 h3 CR dz HNZ HTZ HRG HM8 HK8
                    generalize hb8 : ts3[y] = b8 at *
                    have hrv := HF.out _ rfl
                    generalize releaseR r3 (nz : Int) = ro at *
                    obtain ⟨ro1, ro2⟩ := ro
                    simp only at hrv HFIN ⊢
                    subst hrv
                    cases b8
                    · go_wp2
                      go_meet
                      case rel => exact ⟨T4, ro1, _, rfl, HS4.out, HFIN.out⟩
                    · go_wp2
                      go_meet
                      case rel => exact ⟨T4, ro1, _, rfl, HS4.out, HFIN.out⟩
                  · have hzi : ¬ (1 : Int) + (z : Int) < (ns3.length : Int) := by omega
                    go_wp2
                    go_meet
                    case rel => exact ⟨T3, r3, ts3, rfl, rfl, HK3.out⟩
                · have hkri : ¬ (k : Int) < (rl : Int) := by omega
                  go_wp2
                  go_meet
                  case rel => exact ⟨T3, r3, ts3, rfl, rfl, HK3.out⟩
              case rest =>
                obtain ⟨T4, r4, ts4, rfl, hs4, hK4⟩ := hcut
                have HK4 := Hid.mk' hK4
                have HS4 := Hid.mk' hs4
                rw [← hs4]
                clear hK4 HK3 hs4
                generalize wc = wz at *
                go_wp2
                go_loopw [11] (fun x wg => ∃ j : Nat, x = .int .i64 j ∧ j ≤ ns3.length ∧ Below wz.heap.size wz wg) (fun x _ => ns3.length - (intOf x).toNat)
                case atStart => exact ⟨0, rfl, Nat.zero_le _, Below.refl _ _⟩
                case round =>
                  obtain ⟨j, rfl, hjn, hbj⟩ := hrel
                  have HKJ := Hid.mk' (HK4.out.below hbj)
                  have HBJ := Hid.mk' hbj
                  clear hbj
                  by_cases hjl : j < ns3.length
                  · have hji : (j : Int) < (ns3.length : Int) := by omega
                    have hjt : j < ts4.length := by rw [HKJ.out.pu.lt']; exact hjl
                    have dj : wr.cell? ⟨ga3, j, none⟩ = some (.int .i64 (ns3[j] : Int)) := HKJ.out.m.cellA hjl
                    obtain ⟨vj, lj, hvj, hlj, hfj⟩ := HKJ.out.m.vget hjl
                    have HFD := Hid.mk' (HKJ.out.pu.find j ns3[j] (List.getElem?_eq_getElem hjl))
                    rw [List.getElem?_eq_getElem hjt, hlj] at HFD
                    have CU : Hid (Calls Tryz.prog 19 #[ptrV T4.sb, .int .i64 (ns3[j] : Int)] wr fun e w' => KDump wr (findL r4.all (ns3[j] : Int)) e w') := kDump_any T4 r4 (ns3[j] : Int) wr HKJ.out.st.ok HKJ.out.st.ag (HKJ.out.st.max HMX.out)
                    rw [HFD.out] at CU
                    have HVJ : Hid _ := hvj
                    have HFJ : Hid _ := hfj
                    have HTJ : Hid (ts4[j]? = some ts4[j]) := List.getElem?_eq_getElem hjt
                    obtain ⟨aoj, capj, rfl⟩ := row_form hfj
                    clear hvj hlj hfj HFD
                    generalize ns3[j] = nj at *
                    generalize hbj : ts4[j] = bj at *
                    cases bj
                    · simp only [Option.some.injEq, Bool.false_eq_true, if_false] at CU
                      go_wp2_with fail
                      refine Calls.mono (show Calls _ _ _ _ _ from CU.out) ?_
                      rintro e w8 ⟨hb8, rfl⟩
                      have HK8 := Hid.mk' (HKJ.out.below hb8)
                      have HB8 : Hid (Below wz.heap.size wz w8) := HBJ.out.trans (hb8.mono HBJ.out.size)
                      have ds : w8.cell? ⟨gs3, j, none⟩ = some (.slice aoj lj.length capj) := HK8.out.m.cellS hjl HVJ.out
                      have hjt := hjt
                      have hgs8 : gs3 < w8.heap.size := World.block_lt_of_cell? w8 _ ds
                      have CS : Hid _ := kSame_any 0 w.heap.size [] lj (.slice none 0 0) (.slice aoj lj.length capj) w8 (World.ownsRow_nil _ _ _ _) (FilesK.kept HFJ.out fun i hi => hb8.block i (World.ownsRow.lt HFJ.out i hi).2)
                      clear hb8 CU dj
                      go_wp2_with fail
                      refine Calls.mono (show Calls _ _ _ _ _ from CS.out) ?_
                      rintro e w9 ⟨rfl, hb9⟩
                      have HK9 := Hid.mk' (HK8.out.below hb9)
                      have HB9 : Hid (Below wz.heap.size wz w9) := HB8.out.trans (hb9.mono HB8.out.size)
                      have dt : w9.cell? ⟨gt3, j, none⟩ = some (.bool ts4[j]) := HK9.out.m.cellT hjl hjt
                      rw [hbj] at dt
                      have hgt9 : gt3 < w9.heap.size := World.block_lt_of_cell? w9 _ dt
                      clear hb9 CS ds
                      go_wp2
                      go_roundw
                      case rel => exact ⟨j + 1, by go_num, by omega, HB9.out⟩
                      case measure => simp [intOf]; omega
                    · simp only [if_true] at CU
                      go_wp2_with fail
                      refine Calls.mono (show Calls _ _ _ _ _ from CU.out) ?_
                      rintro e w8 ⟨hb8, v8, rfl, hv8⟩
                      have HK8 := Hid.mk' (HKJ.out.below hb8)
                      have HB8 : Hid (Below wz.heap.size wz w8) := HBJ.out.trans (hb8.mono HBJ.out.size)
                      have ds : w8.cell? ⟨gs3, j, none⟩ = some (.slice aoj lj.length capj) := HK8.out.m.cellS hjl HVJ.out
                      have hjt := hjt
                      have hgs8 : gs3 < w8.heap.size := World.block_lt_of_cell? w8 _ ds
                      have CS : Hid _ := kSame_any wr.heap.size w.heap.size lj lj v8 (.slice aoj lj.length capj) w8 hv8 (FilesK.kept HFJ.out fun i hi => hb8.block i (World.ownsRow.lt HFJ.out i hi).2)
                      obtain ⟨ao8, cap8, rfl⟩ := row_form hv8
                      clear hb8 CU dj hv8
                      go_wp2_with fail
                      refine Calls.mono (show Calls _ _ _ _ _ from CS.out) ?_
                      rintro e w9 ⟨rfl, hb9⟩
                      have HK9 := Hid.mk' (HK8.out.below hb9)
                      have HB9 : Hid (Below wz.heap.size wz w9) := HB8.out.trans (hb9.mono HB8.out.size)
                      have dt : w9.cell? ⟨gt3, j, none⟩ = some (.bool ts4[j]) := HK9.out.m.cellT hjl hjt
                      rw [hbj] at dt
                      have hgt9 : gt3 < w9.heap.size := World.block_lt_of_cell? w9 _ dt
                      clear hb9 CS ds
                      simp only [decide_true]
                      go_wp2
                      go_roundw
                      case rel => exact ⟨j + 1, by go_num, by omega, HB9.out⟩
                      case measure => simp [intOf]; omega
                  · have hji : ¬ (j : Int) < (ns3.length : Int) := by omega
                    rw [HS4.out, HS3.out, HS2.out]
                    go_wp2
                    go_roundw
                    case rel => exact ⟨k + 1, T4, r4, ns3, ts4, ws3, vs3, by omega, by go_num, by rw [HS4.out, HS3.out, HS2.out], h43, HKJ.out⟩
                    case measure => simp [intOf]; omega
      · rw [decide_eq_false hgo]
        have HE := Hid.mk' HK.out.fin
        clear hgo HK HCT HCS HCA
        go_wp2
        go_loopw [19] (fun x wq => ∃ (j : Nat) (T3 : Bank) (r3 : RSt), x = .int .i64 j ∧ 1 ≤ j ∧ j ≤ ns.length ∧ T3.sb = T'.sb ∧ KeptEnd w wq T3 r3 (.slice (some ⟨ga, 0, none⟩) ns.length ca) ns j) (fun x _ => ns.length - (intOf x).toNat)
        case atStart => exact ⟨1, T', r, rfl, Nat.le_refl _, hpos, rfl, HE.out⟩
        case round =>
          obtain ⟨j, T3, r3, rfl, hj1, hjn, hs3, hE⟩ := hrel
          clear HE
          by_cases hjl : j < ns.length
          · have hji : (j : Int) < (ns.length : Int) := by omega
            have dj : wr.cell? ⟨ga, j, none⟩ = some (.int .i64 (ns[j] : Int)) := by
              obtain ⟨g2, c2, e2, _, _, _, _, h2⟩ := ints_cells hE.ra (List.ne_nil_of_length_pos hpos)
              simp only [Value.slice.injEq, Option.some.injEq, Addr.mk.injEq, and_true, true_and] at e2
              obtain ⟨rfl, rfl⟩ := e2
              exact h2 j hjl
            have CR : Hid (Calls Tryz.prog 20 #[ptrV T'.sb, .int .i64 (ns[j] : Int)] wr fun e w' => StepOut1 wr.heap.size wr T3 (releaseR r3 (ns[j] : Int)) e w') := hs3 ▸ storeRelease_any T3 r3 (ns[j] : Int) wr hE.st.ok hE.st.ag
            have HNJ : Hid (ns[j]? = some ns[j]) := List.getElem?_eq_getElem hjl
            have HE : Hid _ := hE
            clear hE
            generalize ns[j] = nj at *
            go_wp2_with fail
            refine Calls.mono (show Calls _ _ _ _ _ from CR.out) ?_
            rintro e w8 ⟨T4, rfl, h1, h2, h3⟩
            have HE8 := Hid.mk' (HE.out.gone HNJ.out (by omega) h1 h2 h3)
            have hs4 : T4.sb = T'.sb := h3.four.1.trans hs3
            clear h1 h2 h3 CR
            go_wp2
            go_roundw
            case rel => exact ⟨j + 1, T4, _, by go_num, by omega, by omega, hs4, HE8.out⟩
            case measure => simp [intOf]; omega
          · have hji : ¬ (j : Int) < (ns.length : Int) := by omega
            have CC : Hid (Calls Tryz.prog 16 #[ptrV T'.sb] wr fun e w' => e = .returned (.int .i64 (c00 : Nat)) ∧ Below wr.heap.size wr w') := by
              have h1 := bankCells_any T3 wr hE.st.ok.at' (by have := hE.st.ok.room; omega)
              rw [← Agree.cells hE.st.ok hE.st.ag, hs3] at h1
              obtain ⟨ts3, ws3, p1, p2⟩ := hE.pu
              rw [p1.last (fun i h1 h2 => p2 i h1 (by omega)), HC00.out] at h1
              refine h1.mono ?_
              rintro e w' ⟨rfl, n, rfl⟩
              exact ⟨rfl, below_like rfl rfl rfl rfl⟩
            have HBW : Hid _ := hE.st.base
            clear hE
            go_wp2_with fail
            refine Calls.mono (show Calls _ _ _ _ _ from CC.out) ?_
            rintro e w9 ⟨rfl, hb9⟩
            have R9 : Hid (Below w.heap.size w w9) := HBW.out.trans (hb9.mono HBW.out.size)
            clear hb9 CC
            go_wp2
            go_ret
            exact ⟨by simp, R9.out⟩

end Go.Proofs.YtdcbgfhkfmohiaaGreatDoor
