/- Planned: the walk. -/
import Derived.Test.YtdcbgfhkfmohiaaGreatDoorPl32
import Derived.Deep.DeepCutAuto
import Derived.Deep.RegionHeld3
namespace Go.Proofs.YtdcbgfhkfmohiaaGreatDoor
open Go.RowKit
attribute [local go_sem] Oper.semAt_some

/-- The questions of the first numbers. -/
def xsK (R : Nat → Int) (k : Nat) : List Str := (List.range k).map fun i => questK (R i) ((R i).tdiv 5)
theorem xsK_succ (R : Nat → Int) (k : Nat) : xsK R (k + 1) = xsK R k ++ [questK (R k) ((R k).tdiv 5)] := by simp [xsK, List.range_succ]
theorem xsK_len (R : Nat → Int) (k : Nat) : (xsK R k).length = k := by simp [xsK]
theorem xsK_ok (R : Nat → Int) (k : Nat) : ∀ x ∈ xsK R k, checkL x = 0 := by
  intro x hx
  unfold xsK at hx
  rw [List.mem_map] at hx
  obtain ⟨i, _, rfl⟩ := hx
  exact quest_ok _ _
theorem list_root_ok : checkL [108, 105, 115, 116, 32, 47] = 0 := by decide +kernel
theorem kIn_div {c : Int} (h : kIn c) : kIn (c.tdiv 5) := by
  unfold kIn at *
  rcases Int.le_total 0 c with h0 | h0
  · rw [Int.tdiv_eq_ediv_of_nonneg h0]; omega
  · have e : c.tdiv 5 = -((-c).tdiv 5) := by rw [Int.neg_tdiv, Int.neg_neg]
    rw [e, Int.tdiv_eq_ediv_of_nonneg (by omega)]; omega

set_option maxHeartbeats 32000000 in
set_option maxRecDepth 50000 in
theorem kPlanned_any (v : Value) (len : Nat) (O : Nat → KStep) (v1 : Value) (len1 : Nat) (N1 : Nat → Int) (v2 : Value) (len2 : Nat) (N2 : Nat → Int) (w : World) (h : StepsAt w v len O) (hok : ∀ i, i < len → (O i).ok) (hlen : len ≤ 2000000000000000)
    (h1 : IntsAt w v1 len1 N1) (hn1 : ∀ i, i < len1 → kIn (N1 i)) (_hl1 : len1 ≤ 2000000000000000) (h2 : IntsAt w v2 len2 N2) (hn2 : ∀ i, i < len2 → kIn (N2 i)) (_hl2 : len2 ≤ 2000000000000000) (hmx : MaxOk w) :
    Calls Tryz.prog 10 #[v, v1, v2] w fun e w' => KBool w true e w' := by
  have C1 := kPlayed_any v len O w h hok hlen hmx
  obtain ⟨aoQ, capQ, rfl, hcq⟩ := h1
  obtain ⟨aoR, capR, rfl, hcr⟩ := h2
  have HCQ := Hid.mk' hcq
  have HCR := Hid.mk' hcr
  have HQK := Hid.mk' hn1
  have HRK := Hid.mk' hn2
  have HMX := Hid.mk' hmx
  clear h hok hmx hcq hcr hn1 hn2
  go_enter Tryz.func10, Tryz.ntmps10
  go_wp2_with fail
  refine C1.mono ?_
  rintro e w1 ⟨T, r, u, ns, rfl, hP⟩
  have hf := hP.pl.facts
  have hpos : 0 < ns.length := List.length_pos_iff.2 hf.2.2.1
  have hl11 := hf.2.2.2.1
  have HPL := Hid.mk' hP.pl
  obtain ⟨l0, hl0⟩ : ∃ l0, findL r.all 0 = some l0 := hP.pl.find hP.pl.zero
  have HL0 := Hid.mk' hl0
  have HU1 := Hid.mk' hP.row
  have CP := Hid.mk' ((PAt.start hP.st (u := u) (fun k hk => ⟨(hP.row.lt k hk).2, (hP.out k hk).2⟩)).plan0 hl0)
  obtain ⟨aoU, capU, rfl⟩ := row_form hP.row
  clear hP hf C1 hl0
  go_wp2_with fail
  refine Calls.mono (show Calls _ _ _ _ _ from CP.out) ?_
  rintro e w2 ⟨rfl, hp2, hr2⟩
  have HP2 := Hid.mk' hp2
  have HU2 := Hid.mk' (hr2.row (by simp) HU1.out)
  have HB2 := Hid.mk' hp2.base
  clear hp2 hr2 HU1 CP
  go_wp2
  go_loopw [11, 12] (fun q i wr => ∃ (k : Nat) (xs : List Str), k ≤ 6 ∧ k ≤ len1 ∧ i = .int .i64 k ∧ xs = xsK N1 k ∧ wr.ownsRow w2.heap.size 9 1 q k (xs.map SV) ∧ Below w2.heap.size w2 wr) (fun _ i _ => 6 - (intOf i).toNat)
  case atStart => exact ⟨0, [], by omega, Nat.zero_le _, rfl, rfl, World.ownsRow_nil _ _ _ _, Below.refl _ _⟩
  case round =>
    obtain ⟨k, xs, hk6, hk1, rfl, hxs, hrow, hb⟩ := hrel
    have HXS := Hid.mk' hxs
    clear hxs
    by_cases hlt : k < len1 ∧ k < 6
    · obtain ⟨hlt1, hlt6⟩ := hlt
      have hki : (k : Int) < (len1 : Int) := by omega
      have hki6 : (k : Int) < 6 := by omega
      obtain ⟨gq, oq, eq, hgq, cq⟩ := HCQ.out k hlt1
      subst eq
      have hqk := HQK.out k hlt1
      have HS : Hid (∀ W, Below w2.heap.size w2 W → W.cell? ⟨gq, oq + k, none⟩ = some (.int .i64 (N1 k))) := fun W hW => ((HB2.out.trans (hW.mono HB2.out.size)).cell (p := ⟨gq, oq + k, none⟩) hgq).trans cq
      have cqr : wr.cell? ⟨gq, oq + k, none⟩ = some (.int .i64 (N1 k)) := HS.out wr hb
      have hgr : gq < wr.heap.size := Nat.lt_of_lt_of_le hgq (Nat.le_trans HB2.out.size hb.size)
      have hwrap : IntKind.i64.wrap ((N1 k).tdiv 5) = (N1 k).tdiv 5 := IntWalk.i64_in _ (by have := kIn_div hqk; unfold kIn at this; omega)
      have CQ : Hid (∀ W, Calls Tryz.prog 36 #[.int .i64 (N1 k), .int .i64 (IntKind.i64.wrap ((N1 k).tdiv 5))] W fun e w' => KText W (questK (N1 k) ((N1 k).tdiv 5)) e w') := fun W => by
        rw [hwrap]
        exact kQuestion_any (N1 k) ((N1 k).tdiv 5) W hqk (kIn_div hqk)
      clear hwrap
      have HXN : Hid (xs ++ [questK (N1 k) ((N1 k).tdiv 5)] = xsK N1 (k + 1)) := by rw [Hid, xsK_succ, HXS.out]
      have HB := Hid.mk' hb
      have HROW := Hid.mk' hrow
      obtain ⟨aoX, capX, rfl⟩ := row_form hrow
      generalize questK (N1 k) ((N1 k).tdiv 5) = xq at *
      unfold kIn at hqk
      generalize N1 k = nk at *
      have hz := hb.size
      clear cq hrow hb
      have K1 : Hid (∀ W, Below w2.heap.size w2 W → W.cell? ⟨gq, oq + k, none⟩ = some (.int .i64 nk)) := HS.out
      have HRW : Hid (∀ W, Below wr.heap.size wr W → W.ownsRow w2.heap.size 9 1 (.slice aoX k capX) k (xs.map SV)) := fun W hW => rowKept HROW.out fun j hj => hW.block j (World.ownsRow.lt HROW.out j hj).2
      have HBW : Hid (∀ W, Below wr.heap.size wr W → Below w2.heap.size w2 W) := fun W hW => HB.out.trans (hW.mono HB.out.size)
      go_upto_region 9 with fail
      go_region_held3 (fun W : World => W.cell? ⟨gq, oq + k, none⟩ = some (.int .i64 nk))
        (first | exact K1.out _ hb3a | exact K1.out _ (HBW.out _ (hb2a.alloc hb2a.size _)) | exact K1.out _ (HBW.out _ hb2a) | exact K1.out _ (HBW.out _ ((Below.refl _ _).drew)))
        (first
          | ((go_at_call 36; refine (CQ.out _).mono ?_; rintro e w4 ⟨rfl, hb2⟩; have hb2a : Below wr.heap.size wr w4 := ((Below.refl _ _).drew).trans hb2))
          | ((refine step_app_in rfl (.tmp 55) (.tmp 66) rfl (base := w2.heap.size) ((HRW.out w4 hb2a).alloc _) xq w4.heap.size ((blk_cell (heap_alloc_new w4 _) 0).trans rfl) rfl rfl (by omega) (by have := (HBW.out w4 hb2a).size; simp; omega) ?_; intro v' w5 hown3 hg3; have hb3a : Below w2.heap.size w2 w5 := (HBW.out _ (hb2a.alloc hb2a.size _)).grown hg3 (by have := (HBW.out w4 hb2a).size; simp; omega) (fun j hj => (World.ownsRow.lt HROW.out j hj).1); have HOW := Hid.mk' hown3; have HB5 := Hid.mk' hb3a; clear hown3 hg3)))
      all_goals
        go_wp2
        go_roundw
        case rel => exact ⟨k + 1, xs ++ [xq], by omega, by omega, by go_num, HXN.out, HOW.out, HB5.out⟩
        case measure => simp [intOf]; omega
    · have hge : ¬ (k : Int) < (len1 : Int) ∨ ((k : Int) < (len1 : Int) ∧ ¬ (k : Int) < 6) := by omega
      have HROW := Hid.mk' hrow
      have HB := Hid.mk' hb
      obtain ⟨aoX, capX, rfl⟩ := row_form hrow
      clear hrow hb hlt
      go_upto_region 7 with fail
      go_cut [52] (fun c wc => c = .bool false ∧ wc = wr)
      case first =>
        rcases hge with hge | ⟨hge, hge6⟩
        · go_wp2
          go_meet
          case rel => exact ⟨rfl, rfl⟩
        · go_wp2
          go_meet
          case rel => exact ⟨rfl, rfl⟩
      case rest =>
        obtain ⟨rfl, rfl⟩ := hcut
        clear hge
        generalize wc = wr at *
        have hz := HB.out.size
        go_upto_if 70 with fail
        go_cut [11] (fun q wc => ∃ (n : Nat) (xs : List Str), Qok xs ∧ wc.ownsRow w2.heap.size 9 1 q n (xs.map SV) ∧ Below w2.heap.size w2 wc)
        case first =>
          by_cases hk0 : k = 0
          · subst hk0
            go_wp2_with (at_builtin; go_loud (refine wp_app_str rfl (.tmp 71) (.tmp 72) rfl HROW.out [108, 105, 115, 116, 32, 47] ⟨rfl, rfl, rfl, rfl⟩ rfl rfl (by omega) hz ?_))
            intro v' w' hown' hb'
            have HR : Hid (∃ (n : Nat) (xs : List Str), Qok xs ∧ w'.ownsRow w2.heap.size 9 1 v' n (xs.map SV) ∧ Below w2.heap.size w2 w') := by
              have e : xs = [] := HXS.out
              subst e
              exact ⟨_, [[108, 105, 115, 116, 32, 47]], ⟨by simp [list_root_ok], by simp, by simp⟩, hown', HB.out.trans hb'⟩
            clear hown' hb'
            go_wp2
            go_meet
            case rel => exact HR.out
          · have hk0i : ¬ (k : Int) = 0 := by omega
            have HR : Hid (∃ (n : Nat) (xs : List Str), Qok xs ∧ wr.ownsRow w2.heap.size 9 1 (.slice aoX k capX) n (xs.map SV) ∧ Below w2.heap.size w2 wr) := by
              have hl := xsK_len N1 k
              refine ⟨k, xs, ⟨by rw [HXS.out]; exact xsK_ok N1 k, ?_, by rw [HXS.out]; omega⟩, HROW.out, HB.out⟩
              intro e
              rw [HXS.out] at e
              rw [e] at hl
              simp at hl
              omega
            go_wp2
            go_meet
            case rel => exact HR.out
        case rest =>
          obtain ⟨nq, xs, hQ, hrow, hb⟩ := hcut
          have hnq : nq = xs.length := by have := hrow.1; simp at this; omega
          subst hnq
          have HQ := Hid.mk' hQ
          have HRQ := Hid.mk' hrow
          have HP3 := Hid.mk' (HP2.out.more hb (v := u11) (fun j hj => ⟨(hrow.lt j hj).1, (hrow.lt j hj).2⟩))
          have CR1 := Hid.mk' (HP3.out.ruleOne HQ.out (names_of_row hrow) HMX.out)
          have HU3 : Hid (wc.ownsRow w.heap.size 3 1 (.slice aoU ns.length capU) ns.length (intsV ns)) := rowKept HU2.out fun j hj => hb.block j (World.ownsRow.lt HU2.out j hj).2
          obtain ⟨aoq, capq, rfl⟩ := row_form hrow
          have hx1 : 1 ≤ xs.length := List.length_pos_iff.2 hQ.ne
          have hx6 := hQ.few
          have hlq : xs.length ≤ capq ∧ capq ≤ maxLen := by
            rcases row_cells hrow with ⟨_, h0⟩ | ⟨g, c, e, _, _, h1, h2, _⟩
            · omega
            · simp only [Value.slice.injEq] at e
              obtain ⟨_, _, rfl⟩ := e
              exact ⟨h1, h2⟩
          clear hrow hb hQ HROW HXS HB HP2 HU2
          go_wp2_with fail
          refine Calls.mono (show Calls _ _ _ _ _ from CR1.out) ?_
          rintro e w3 ⟨rfl, hp3, hr3⟩
          have HP4 := Hid.mk' hp3
          have HRQ3 := Hid.mk' (hr3.row (by simp) HRQ.out)
          have HU4 := Hid.mk' (hr3.row (by simp) HU3.out)
          have CR2 := Hid.mk' (hp3.ruleTwo HMX.out)
          clear hp3 hr3 CR1 HP3 HRQ HU3
          go_wp2_with fail
          refine Calls.mono (show Calls _ _ _ _ _ from CR2.out) ?_
          rintro e w4 ⟨rfl, hp4, hr4⟩
          have HP5 : Hid (PAt w w4 T r (V2 xs [] []) [.slice none 0 0, .slice aoq xs.length capq, .slice aoU ns.length capU]) := hp4.more (Below.refl _ _) (fun k hk => by simp [Value.ownBlock] at hk)
          have HRQ4 := Hid.mk' (hr4.row (by simp) HRQ3.out)
          have HU5 := Hid.mk' (hr4.row (by simp) HU4.out)
          clear hp4 hr4 CR2 HP4 HRQ3 HU4
          go_wp2
          go_loopw [15, 16, 17] (fun av sv i wr => ∃ (k : Nat) (a b : List Str) (sec : Str) (na : Nat), k ≤ len2 ∧ k ≤ 20 ∧ i = .int .i64 k ∧ PAt w wr T r (V2 xs a b) [av, .slice aoq xs.length capq, .slice aoU ns.length capU] ∧ wr.ownsRow w.heap.size 9 1 av na (a.map SV) ∧ wr.ownsRow w2.heap.size 9 1 (.slice aoq xs.length capq) xs.length (xs.map SV) ∧ wr.ownsRow w.heap.size 3 1 (.slice aoU ns.length capU) ns.length (intsV ns) ∧ (a = [] ∨ a.length = xs.length) ∧ sv = SV sec ∧ SecK b sec) (fun _ _ i _ => 20 - (intOf i).toNat)
          case atStart => exact ⟨0, [], [], [], 0, Nat.zero_le _, Nat.zero_le _, rfl, HP5.out, World.ownsRow_nil _ _ _ _, HRQ4.out, HU5.out, .inl rfl, rfl, .inl ⟨rfl, rfl⟩⟩
          case round =>
            obtain ⟨k, a, b, sec, na, hk2, hk20, rfl, hp, hra, hrq, hru, hal, rfl, hsec⟩ := hrel
            have HP := Hid.mk' hp
            have HRA := Hid.mk' hra
            have HRQ := Hid.mk' hrq
            have HRU := Hid.mk' hru
            have HSEC := Hid.mk' hsec
            have HAL := Hid.mk' hal
            have hna : na = a.length := by have := hra.1; simp at this; omega
            subst hna
            obtain ⟨aoA, capA, rfl⟩ := row_form hra
            clear hp hra hrq hru hsec hal HP5 HRQ4 HU5
            by_cases hlt : k < len2 ∧ k < 20
            · obtain ⟨hlt2, hlt20⟩ := hlt
              have hki : (k : Int) < (len2 : Int) := by omega
              have hki20 : (k : Int) < 20 := by omega
              obtain ⟨gr, orr, er, hgr, cr⟩ := HCR.out k hlt2
              subst er
              have hrk := HRK.out k hlt2
              have crr : wr.cell? ⟨gr, orr + k, none⟩ = some (.int .i64 (N2 k)) := (HP.out.base.cell (p := ⟨gr, orr + k, none⟩) hgr).trans cr
              have hgrr : gr < wr.heap.size := Nat.lt_of_lt_of_le hgr HP.out.base.size
              obtain ⟨g, cp, eU, hg, hgb, hcp, hcm, hcell⟩ := ints_cells HRU.out (List.length_pos_iff.1 hpos)
              simp only [Value.slice.injEq] at eU
              obtain ⟨rfl, -, rfl⟩ := eU
              have CK := kPick_any (N2 k) ns.length wr hrk hpos (by omega)
              have hq := kN_lt (N2 k) hpos
              generalize kN (N2 k) ns.length = q at *
              have hqi : (q : Int) < (ns.length : Int) := by omega
              have da : wr.cell? ⟨g, q, none⟩ = some (.int .i64 (ns[q] : Int)) := hcell q hq
              obtain ⟨l, hl⟩ := HPL.out.find (List.getElem_mem hq)
              have CP := Hid.mk' (HP.out.plan2 HQ.out hl)
              have HL := Hid.mk' hl
              clear hcell cr hl
              generalize ns[q] = nn at *
              generalize N2 k = nk at *
              unfold maxLen at hcm
              go_wp2_with fail
              refine CK.mono ?_
              rintro e wr ⟨rfl, rfl⟩
              clear CK crr
              go_wp2_with fail
              refine Calls.mono (show Calls _ _ _ _ _ from CP.out) ?_
              rintro e w5 ⟨rfl, hp5, hr5⟩
              have HP5 := Hid.mk' hp5
              have HRA5 := Hid.mk' (hr5.row (by simp) HRA.out)
              have HRQ5 := Hid.mk' (hr5.row (by simp) HRQ.out)
              have HRU5 := Hid.mk' (hr5.row (by simp) HRU.out)
              clear hp5 hr5 CP da hg HP HRA HRQ HRU hgrr
              obtain ⟨tt, htt⟩ : ∃ tt, lineK tOne (xs.map (ansK l)) a ++ lineK tTwo [ansK l qExA] b = tt := ⟨_, rfl⟩
              have HTT := Hid.mk' htt
              rw [htt]
              clear htt
              go_upto_region 24 with fail
              go_cut [22] (fun m wc => m = .bool (mustK a [] 0) ∧ wc = w5)
              case first =>
                rcases HAL.out with h0 | h0
                · have HE := Hid.mk' h0
                  have e0 : a.length = 0 := by rw [h0]; rfl
                  clear h0
                  go_wp2
                  go_meet
                  case rel => exact ⟨by rw [HE.out]; rfl, rfl⟩
                · have e0 : ¬ (a.length : Int) = 0 := by omega
                  clear h0
                  go_wp2
                  go_meet
                  case rel => exact ⟨by rw [must_start, decide_eq_false (fun h => e0 (by rw [h]; rfl))]; exact congrArg Value.bool (beq_eq_false_iff_ne.2 e0), rfl⟩
              case rest =>
                obtain ⟨rfl, rfl⟩ := hcut
                generalize wc = w5 at *
                have HCA := Hid.mk' (strs_cells HRA5.out)
                have HCQ5 := Hid.mk' (strs_cells HRQ5.out)
                go_wp2
                go_loopw [21, 22, 23] (fun nv mv i wr => ∃ (j : Nat) (ys : List Str) (mb : Bool), j ≤ xs.length ∧ i = .int .i64 j ∧ ys = (xs.take j).map (ansK l) ∧ wr.ownsRow w5.heap.size 9 1 nv j (ys.map SV) ∧ mv = .bool mb ∧ mb = mustK a ys j ∧ Below w5.heap.size w5 wr) (fun _ _ i _ => xs.length - (intOf i).toNat)
                case atStart => exact ⟨0, [], _, Nat.zero_le _, rfl, rfl, World.ownsRow_nil _ _ _ _, rfl, rfl, Below.refl _ _⟩
                case round =>
                  obtain ⟨j, ys, mb, hj, rfl, hys, hrow, rfl, hmb, hb⟩ := hrel
                  have HYS := Hid.mk' hys
                  have HMB := Hid.mk' hmb
                  clear hys hmb
                  by_cases hjl : j < xs.length
                  · have hji : (j : Int) < (xs.length : Int) := by omega
                    rcases HCQ5.out with ⟨_, h0, _⟩ | ⟨gq, cq, eq, hnq, hgq, _, hcq, hmq, hpq⟩
                    · omega
                    simp only [Value.slice.injEq] at eq
                    obtain ⟨rfl, -, rfl⟩ := eq
                    clear hnq
                    have cj : wr.cell? ⟨gq, j, none⟩ = some (SV xs[j]) := (hb.cell (p := ⟨gq, j, none⟩) hgq).trans (hpq j hjl)
                    have hgqr : gq < wr.heap.size := Nat.lt_of_lt_of_le hgq hb.size
                    have CA : Hid (Calls Tryz.prog 32 #[ptrV T.sb, .int .i64 (nn : Int), SV xs[j]] wr fun e w' => DiffOut wr (ansK l xs[j], 0) e w') := (HP5.out.below hb).ask HMX.out HL.out (HQ.out.ok xs[j] (List.getElem_mem hjl))
                    have HYN : Hid (ys ++ [ansK l xs[j]] = (xs.take (j + 1)).map (ansK l)) := by rw [Hid, List.take_succ_eq_append_getElem hjl, List.map_append, HYS.out]; rfl
                    have HYL : Hid (ys.length = j) := by rw [Hid, HYS.out]; simp; omega
                    unfold maxLen at hmq
                    have HROW := Hid.mk' hrow
                    have HB := Hid.mk' hb
                    obtain ⟨aoY, capY, rfl⟩ := row_form hrow
                    clear hpq hrow hb
                    generalize ansK l xs[j] = x at *
                    generalize xs[j] = xq at *
                    go_wp2_with fail
                    refine Calls.mono (show Calls _ _ _ _ _ from CA.out) ?_
                    rintro e w6 ⟨rfl, hb6⟩
                    have HR6 : Hid (w6.ownsRow w5.heap.size 9 1 (.slice aoY j capY) j (ys.map SV)) := rowKept HROW.out fun i hi => hb6.block i (World.ownsRow.lt HROW.out i hi).2
                    have HB6 : Hid (Below w5.heap.size w5 w6) := HB.out.trans (hb6.mono HB.out.size)
                    have hz6 := HB6.out.size
                    clear hb6 CA cj HROW HB
                    go_wp2_with (at_builtin; go_loud (refine wp_app_str rfl (.tmp 137) (.tmp 139) rfl HR6.out x ⟨rfl, rfl, rfl, rfl⟩ rfl rfl (by omega) hz6 ?_))
                    intro v' w7 hown7 hb7
                    have HR7 : Hid (w7.ownsRow w5.heap.size 9 1 v' (j + 1) ((ys ++ [x]).map SV)) := by rw [Hid, List.map_append]; exact hown7
                    have HB7 : Hid (Below w5.heap.size w5 w7) := HB6.out.trans hb7
                    clear hown7 hb7 HR6 HB6 hz6
                    cases mb
                    · have hne : a ≠ [] := fun e => by
                        have := HMB.out
                        rw [e] at this
                        simp [mustK] at this
                      have hja : j < a.length := by
                        rcases HAL.out with h | h
                        · exact absurd h hne
                        · omega
                      rcases HCA.out with ⟨_, h0, _⟩ | ⟨gA, cA, eA, hnA, hgA, _, hcA, hmA, hpA⟩
                      · omega
                      simp only [Value.slice.injEq] at eA
                      obtain ⟨rfl, -, rfl⟩ := eA
                      have ca : w7.cell? ⟨gA, j, none⟩ = some (SV a[j]) := (HB7.out.cell (p := ⟨gA, j, none⟩) hgA).trans (hpA j hja)
                      have hgA7 : gA < w7.heap.size := Nat.lt_of_lt_of_le hgA HB7.out.size
                      have hjai : (j : Int) < (a.length : Int) := by omega
                      have HMF := Hid.mk' (must_false (x := x) HMB.out.symm hja)
                      clear hnA hpA hne
                      unfold maxLen at hmA
                      generalize a[j] = aj at *
                      by_cases hax : aj = x
                      · have HM2 : Hid (false = mustK a (ys ++ [x]) (j + 1)) := by rw [Hid, HMF.out]; simp [hax]
                        subst hax
                        clear HMF
                        go_wp2
                        go_roundw
                        case rel => exact ⟨j + 1, ys ++ [aj], false, by omega, by go_num, HYN.out, HR7.out, rfl, HM2.out, HB7.out⟩
                        case measure => simp [intOf]; omega
                      · have HM2 : Hid (true = mustK a (ys ++ [x]) (j + 1)) := by rw [Hid, HMF.out]; simp [hax]
                        have haxB : (aj == x) = false := by simpa using hax
                        clear HMF
                        go_wp2
                        go_roundw
                        case rel => exact ⟨j + 1, ys ++ [x], true, by omega, by go_num, HYN.out, HR7.out, rfl, HM2.out, HB7.out⟩
                        case measure => simp [intOf]; omega
                    · have HM2 : Hid (true = mustK a (ys ++ [x]) (j + 1)) := (must_true HYL.out HMB.out.symm).symm
                      go_wp2
                      go_roundw
                      case rel => exact ⟨j + 1, ys ++ [x], true, by omega, by go_num, HYN.out, HR7.out, rfl, HM2.out, HB7.out⟩
                      case measure => simp [intOf]; omega
                  · have hji : ¬ (j : Int) < (xs.length : Int) := by omega
                    have hje : j = xs.length := by omega
                    subst hje
                    have HYA : Hid (ys = xs.map (ansK l)) := by rw [Hid, HYS.out, List.take_length]
                    have HMA : Hid (mb = decide (ys ≠ a)) := by rw [Hid, HMB.out]; exact must_end hx1 (by rw [HYS.out]; simp) HAL.out
                    have HROW := Hid.mk' hrow
                    have HB := Hid.mk' hb
                    obtain ⟨aoY, capY, rfl⟩ := row_form hrow
                    have CE : Hid (Calls Tryz.prog 32 #[ptrV T.sb, .int .i64 (nn : Int), .string ⟨#[101, 120, 105, 115, 116, 115, 32, 97]⟩] wr fun e w' => DiffOut wr (ansK l qExA, 0) e w') := (HP5.out.below hb).ask HMX.out HL.out qExA_ok
                    have HEN := Hid.mk' (ex_ne l)
                    clear hrow hb HYS HMB HCA HCQ5
                    rw [← HYA.out] at HTT
                    have HP5' : Hid (PAt w w5 T r (V2 xs ys [ansK l qExA]) [.slice aoA a.length capA, .slice aoq xs.length capq, .slice (some ⟨g, 0, none⟩) ns.length capU]) := by rw [Hid, HYA.out]; exact HP5.out
                    have HYL : Hid (ys.length = xs.length) := by rw [Hid, HYA.out]; simp
                    clear HP5 HYA
                    generalize ansK l qExA = x at *
                    go_wp2_with fail
                    refine Calls.mono (show Calls _ _ _ _ _ from CE.out) ?_
                    rintro e w6 ⟨rfl, hb6⟩
                    have HB6 : Hid (Below w5.heap.size w5 w6) := HB.out.trans (hb6.mono HB.out.size)
                    have HR6 : Hid (w6.ownsRow w5.heap.size 9 1 (.slice aoY xs.length capY) xs.length (ys.map SV)) := rowKept HROW.out fun i hi => hb6.block i (World.ownsRow.lt HROW.out i hi).2
                    clear hb6 CE HROW HB
                    have HLO : Hid (∀ b, decide (ys ≠ a) = b → lineK tOne ys a = if b = true then tOne ++ [10] else []) := fun b hb => by
                      subst hb
                      unfold lineK
                      by_cases h : ys = a <;> simp [h]
                    go_upto_if 156 with fail
                    go_cut [15, 28] (fun av wt wd => wd = w6 ∧ ∃ t1, wt = SV t1 ∧ t1 = lineK tOne ys a ∧ t1.length ≤ 4 ∧ ((av = .slice aoY xs.length capY) ∨ (av = .slice aoA a.length capA ∧ ys = a)))
                    case first =>
                      cases mb
                      · have e1 := HLO.out false HMA.out.symm
                        have HE1 : Hid ([] = lineK tOne ys a) := by rw [Hid, e1]; rfl
                        have HE2 : Hid (ys = a) := Hid.mk' (by have := HMA.out.symm; simpa using this)
                        clear e1
                        go_wp2
                        go_meet
                        case rel => exact ⟨rfl, [], rfl, HE1.out, by simp, .inr ⟨rfl, HE2.out⟩⟩
                      · have e1 := HLO.out true HMA.out.symm
                        have HE1 : Hid (tOne ++ [10] = lineK tOne ys a) := by rw [Hid, e1]; rfl
                        clear e1
                        go_wp2
                        go_meet
                        case rel => exact ⟨rfl, tOne ++ [10], rfl, HE1.out, by decide, .inl rfl⟩
                    case rest =>
                      obtain ⟨rfl, t1, rfl, ht1, ht4, hav⟩ := hcut
                      have HT1 := Hid.mk' ht1
                      have HAV := Hid.mk' hav
                      clear ht1 hav HLO
                      generalize wc = w6 at *
                      have HSL := Hid.mk' (sec_line HSEC.out HEN.out)
                      have hap := app_list
                      go_upto_if 160 with fail
                      go_cut [16, 28] (fun sv wt wd => wd = w6 ∧ sv = SV x ∧ wt = SV tt)
                      case first =>
                        by_cases hxs : x = sec
                        · have HE : Hid (t1 = tt) := by rw [Hid, ← HTT.out, HSL.out, if_pos hxs, HT1.out, List.append_nil]
                          have hxs' := hxs.symm
                          subst hxs'
                          simp only [beq_self_eq_true, Bool.not_true]
                          go_wp2
                          go_meet
                          case rel => exact ⟨rfl, rfl, by rw [HE.out]⟩
                        · have HE : Hid (t1 ++ [116, 119, 111, 10] = tt) := by rw [Hid, ← HTT.out, HSL.out, if_neg hxs, HT1.out]; rfl
                          have hxB : (x == sec) = false := by simpa using hxs
                          simp only [hxB, Bool.not_false]
                          go_wp2
                          go_meet
                          case rel => exact ⟨rfl, rfl, by rw [← HE.out]⟩
                      case rest =>
                        obtain ⟨rfl, rfl, rfl⟩ := hcut
                        generalize wc = w6 at *
                        have HPN : Hid (PAt w w6 T r (V2 xs ys [x]) [u15, .slice aoq xs.length capq, .slice (some ⟨g, 0, none⟩) ns.length capU]) := by
                          rcases HAV.out with h | ⟨h, _⟩
                          · rw [h]
                            exact (HP5'.out.more HB6.out (v := .slice aoY xs.length capY) (fun i hi => ⟨(World.ownsRow.lt HR6.out i hi).1, (World.ownsRow.lt HR6.out i hi).2⟩)).fewer (by simp)
                          · rw [h]
                            exact HP5'.out.below HB6.out
                        have HRN : Hid (w6.ownsRow w.heap.size 9 1 u15 ys.length (ys.map SV)) := by
                          rcases HAV.out with h | ⟨h, e⟩
                          · rw [h, HYL.out]
                            exact ownsRow_le HR6.out (HP5'.out.base.size)
                          · rw [h, e]
                            exact rowKept HRA5.out fun i hi => HB6.out.block i (World.ownsRow.lt HRA5.out i hi).2
                        have HRQ6 : Hid (w6.ownsRow w2.heap.size 9 1 (.slice aoq xs.length capq) xs.length (xs.map SV)) := rowKept HRQ5.out fun i hi => HB6.out.block i (World.ownsRow.lt HRQ5.out i hi).2
                        have HRU6 : Hid (w6.ownsRow w.heap.size 3 1 (.slice (some ⟨g, 0, none⟩) ns.length capU) ns.length (intsV ns)) := rowKept HRU5.out fun i hi => HB6.out.block i (World.ownsRow.lt HRU5.out i hi).2
                        clear HP5' HRA5 HRQ5 HRU5 HR6 HB6 HAV HSL HT1 HTT
                        go_wp2
                        go_roundw
                        case rel => exact ⟨k + 1, ys, [x], x, ys.length, by omega, by omega, by go_num, HPN.out, HRN.out, HRQ6.out, HRU6.out, .inr HYL.out, rfl, .inr ⟨rfl, HEN.out⟩⟩
                        case measure => simp [intOf]; omega
            · have hge : ¬ (k : Int) < (len2 : Int) ∨ ((k : Int) < (len2 : Int) ∧ ¬ (k : Int) < 20) := by omega
              clear hlt
              go_upto_region 19 with fail
              go_cut [97] (fun c wc => c = .bool false ∧ wc = wr)
              case first =>
                rcases hge with hge | ⟨hge, hge6⟩
                · go_wp2
                  go_meet
                  case rel => exact ⟨rfl, rfl⟩
                · go_wp2
                  go_meet
                  case rel => exact ⟨rfl, rfl⟩
              case rest =>
                obtain ⟨rfl, rfl⟩ := hcut
                clear hge HSEC HAL
                generalize wc = wr at *
                have CR := Hid.mk' (HP.out.ruleAgain HQ.out (names_of_row HRQ.out) HMX.out)
                clear HP HRA HRQ HRU
                go_wp2_with fail
                refine Calls.mono (show Calls _ _ _ _ _ from CR.out) ?_
                rintro e w5 ⟨rfl, hp5, _⟩
                have CP := Hid.mk' (hp5.plan2 HQ.out HL0.out)
                clear hp5 CR
                go_wp2_with fail
                refine Calls.mono (show Calls _ _ _ _ _ from CP.out) ?_
                rintro e w6 ⟨rfl, hp6, _⟩
                have CG := Hid.mk' (hp6.ruleGone HMX.out)
                have HT : Hid (lineK tOne (xs.map (ansK l0)) [] ++ lineK tTwo [ansK l0 qExA] b = 111 :: 110 :: 101 :: 10 :: lineK tTwo [ansK l0 qExA] b) := by
                  have : xs.map (ansK l0) ≠ [] := by simp; exact HQ.out.ne
                  rw [Hid, lineK, if_neg this]
                  rfl
                have hll : (lineK tTwo [ansK l0 qExA] b).length ≤ 4 := by
                  unfold lineK
                  split
                  · simp
                  · decide
                clear hp6 CP
                rw [HT.out]
                clear HT
                generalize lineK tTwo [ansK l0 qExA] b = t2 at *
                go_wp2_with fail
                refine Calls.mono (show Calls _ _ _ _ _ from CG.out) ?_
                rintro e w7 ⟨rfl, hp7, _⟩
                have CQ := Hid.mk' (hp7.planB HL0.out)
                have HT : Hid (lineK tTwo [ansK l0 qExA] [ansK l0 qExA] = []) := by rw [Hid, lineK, if_pos rfl]
                rw [HT.out] at CQ
                clear hp7 CG HT
                have hX := extract_list
                go_wp2_with fail
                refine Calls.mono (show Calls _ _ _ _ _ from CQ.out) ?_
                rintro e w8 ⟨rfl, hb8⟩
                have R : Hid (KBool w true (.returned (.bool true)) w8) := ⟨rfl, hb8⟩
                clear hb8 CQ
                go_wp2
                go_ret
                exact R.out

end Go.Proofs.YtdcbgfhkfmohiaaGreatDoor
