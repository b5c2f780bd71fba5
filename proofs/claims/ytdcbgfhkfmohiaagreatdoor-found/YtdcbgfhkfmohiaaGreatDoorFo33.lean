/- Found: the statement's own matcher: fits. -/
import Derived.Test.YtdcbgfhkfmohiaaGreatDoorFo32
import Derived.Deep.DeepCutAuto
namespace Go.Proofs.YtdcbgfhkfmohiaaGreatDoor
open Go.RowKit
attribute [local go_sem] Oper.semAt_some

def restLen : Value → Value → Nat
  | .string s, .bool true => s.size + 1
  | _, _ => 0
theorem run_eq {p : Str} (h : runS p = true) : p = [42, 42] := by unfold runS at h; simpa using h
theorem run_ne {p : Str} (h : runS p = false) : ¬ p = [42, 42] := by unfold runS at h; simpa using h

set_option maxHeartbeats 8000000 in
set_option maxRecDepth 50000 in
theorem kFits_any (N : Nat) : ∀ (pat p : Str) (w : World), pat.length + p.length < N → pat.length ≤ 900 → p.length ≤ 900 → Calls Tryz.prog 33 #[SV pat, SV p] w fun e w' => e = .returned (.bool (fitsL pat p)) ∧ Below w.heap.size w w' := by
  induction N with
  | zero => intro pat p w h; omega
  | succ N ih =>
    intro pat p w hN hp1 hp2
    have hE : ∀ args W, (callFunc 33 args).run Tryz.prog W = .ok (.enter 33 args) W := enters_of Tryz.func33 (by kernel_rfl) rfl
    have C1 := Hid.mk' (kCut_any pat w (by omega))
    have C2 : Hid (∀ W, Calls Tryz.prog 34 #[SV p] W fun e w' => KCut W (cutK p) e w') := fun W => kCut_any p W (by omega)
    have hl1 := cut_len pat
    have hl2 := cut_len p
    obtain ⟨⟨part, rest, more⟩, hc1⟩ : ∃ x, cutK pat = x := ⟨_, rfl⟩
    obtain ⟨⟨name, behind, deeper⟩, hc2⟩ : ∃ x, cutK p = x := ⟨_, rfl⟩
    rw [hc1] at C1 hl1
    rw [hc2] at C2 hl2
    simp only at hl1 hl2
    obtain ⟨l1, l2, l3⟩ := hl1
    obtain ⟨m1, m2, m3⟩ := hl2
    cases hr : runS part
    · have hrn := run_ne hr
      have hrnB : (part == [42, 42]) = false := hr
      have FO := Hid.mk' (fits_one hc1 hc2 hr)
      have CS : Hid (∀ W, Calls Tryz.prog 54 #[SV part, SV name] W fun e w' => e = .returned (.bool (spelledL part name)) ∧ ∃ m, w' = W.drewN m) := fun W => kSpells_any part name W (by omega) (by omega)
      cases hsp : spelledL part name
      · rw [hsp] at CS
        have R : Hid (fitsL pat p = false) := by rw [Hid, FO.out, hsp]; rfl
        clear ih FO hsp hr hc1 hc2 l3 m3
        go_enter Tryz.func33, Tryz.ntmps33
        go_wp2_with fail
        refine Calls.mono (show Calls _ _ _ _ _ from C1.out) ?_
        rintro e w1 ⟨rfl, hb1⟩
        have HB1 := Hid.mk' hb1
        clear hb1 C1
        go_wp2_with fail
        refine Calls.mono (show Calls _ _ _ _ _ from C2.out w1) ?_
        rintro e w2 ⟨rfl, hb2⟩
        have HB2 : Hid (Below w.heap.size w w2) := HB1.out.trans (hb2.mono HB1.out.size)
        clear hb2 C2 HB1
        go_wp2_with fail
        refine Calls.mono (show Calls _ _ _ _ _ from CS.out w2) ?_
        rintro e w3 ⟨rfl, m, rfl⟩
        have HB3 : Hid (Below w.heap.size w (w2.drewN m)) := HB2.out.trans (below_drewN (Below.refl _ _) _)
        clear CS HB2
        generalize w2.drewN m = w3 at *
        go_wp2
        go_ret
        exact ⟨by rw [R.out]; rfl, HB3.out⟩
      · rw [hsp] at CS
        cases deeper
        · have R : Hid (fitsL pat p = runsK more rest) := by rw [Hid, FO.out, hsp]; rfl
          clear ih FO hsp hr hc1 hc2 l3 m3
          go_enter Tryz.func33, Tryz.ntmps33
          go_wp2_with fail
          refine Calls.mono (show Calls _ _ _ _ _ from C1.out) ?_
          rintro e w1 ⟨rfl, hb1⟩
          have HB1 := Hid.mk' hb1
          clear hb1 C1
          go_wp2_with fail
          refine Calls.mono (show Calls _ _ _ _ _ from C2.out w1) ?_
          rintro e w2 ⟨rfl, hb2⟩
          have HB2 : Hid (Below w.heap.size w w2) := HB1.out.trans (hb2.mono HB1.out.size)
          clear hb2 C2 HB1
          go_wp2_with fail
          refine Calls.mono (show Calls _ _ _ _ _ from CS.out w2) ?_
          rintro e w3 ⟨rfl, m, rfl⟩
          have HB3 : Hid (Below w.heap.size w (w2.drewN m)) := HB2.out.trans (below_drewN (Below.refl _ _) _)
          clear CS HB2
          generalize w2.drewN m = w3 at *
          have hrl : rest.length ≤ 900 := by omega
          clear l1 l2 m1 m2
          go_wp2
          go_loopw [5, 6, 7] (fun a b c wr => ∃ (pa re : Str) (mo : Bool), a = SV pa ∧ b = SV re ∧ c = .bool mo ∧ runsK more rest = runsK mo re ∧ re.length ≤ 900 ∧ Below w3.heap.size w3 wr) (fun _ b c _ => restLen b c)
          case atStart => exact ⟨part, rest, more, rfl, rfl, rfl, rfl, hrl, Below.refl _ _⟩
          case round =>
            obtain ⟨pa, re, mo, rfl, rfl, rfl, heq, hre, hb⟩ := hrel
            have HQ := Hid.mk' heq
            have HB := Hid.mk' hb
            clear heq hb
            cases mo
            · have RR : Hid (KBool w (fitsL pat p) (.returned (.bool true)) wr) := ⟨by rw [R.out, HQ.out]; rfl, HB3.out.trans (HB.out.mono HB3.out.size)⟩
              go_wp2
              go_ret
              exact ⟨RR.out.1, RR.out.2⟩
            · have C3 := Hid.mk' (kCut_any re wr (by omega))
              have hl3 := cut_len re
              have HST := Hid.mk' (runsK_step re)
              obtain ⟨⟨pa2, re2, mo2⟩, hc3⟩ : ∃ x, cutK re = x := ⟨_, rfl⟩
              rw [hc3] at C3 hl3 HST
              simp only at hl3
              obtain ⟨n1, n2, n3⟩ := hl3
              clear hc3
              go_wp2_with fail
              refine Calls.mono (show Calls _ _ _ _ _ from C3.out) ?_
              rintro e w4 ⟨rfl, hb4⟩
              have HB4 : Hid (Below w3.heap.size w3 w4) := HB.out.trans (hb4.mono HB.out.size)
              clear hb4 C3 HB
              cases hr2 : runS pa2
              · have hrn2 := run_ne hr2
                have hrn2B : (pa2 == [42, 42]) = false := hr2
                have RR : Hid (KBool w (fitsL pat p) (.returned (.bool false)) w4) := ⟨by rw [R.out, HQ.out, HST.out]; simp [hr2], HB3.out.trans (HB4.out.mono HB3.out.size)⟩
                clear hr2
                go_wp2
                go_ret
                exact ⟨RR.out.1, RR.out.2⟩
              · have hrn2 := run_eq hr2
                have HQ2 : Hid (runsK more rest = runsK mo2 re2) := by rw [Hid, HQ.out, HST.out, hr2]; rfl
                subst hrn2
                clear hr2 HQ HST
                go_wp2
                go_roundw
                case rel => exact ⟨[42, 42], re2, mo2, rfl, rfl, rfl, HQ2.out, by omega, HB4.out⟩
                case measure =>
                  cases mo2
                  · simp [restLen]
                  · have := n3 rfl
                    simp [restLen, ByteArray.size]; omega
        · cases more
          · have R : Hid (fitsL pat p = false) := by rw [Hid, FO.out, hsp]; rfl
            clear ih FO hsp hr hc1 hc2 l3 m3
            go_enter Tryz.func33, Tryz.ntmps33
            go_wp2_with fail
            refine Calls.mono (show Calls _ _ _ _ _ from C1.out) ?_
            rintro e w1 ⟨rfl, hb1⟩
            have HB1 := Hid.mk' hb1
            clear hb1 C1
            go_wp2_with fail
            refine Calls.mono (show Calls _ _ _ _ _ from C2.out w1) ?_
            rintro e w2 ⟨rfl, hb2⟩
            have HB2 : Hid (Below w.heap.size w w2) := HB1.out.trans (hb2.mono HB1.out.size)
            clear hb2 C2 HB1
            go_wp2_with fail
            refine Calls.mono (show Calls _ _ _ _ _ from CS.out w2) ?_
            rintro e w3 ⟨rfl, m, rfl⟩
            have HB3 : Hid (Below w.heap.size w (w2.drewN m)) := HB2.out.trans (below_drewN (Below.refl _ _) _)
            clear CS HB2
            generalize w2.drewN m = w3 at *
            go_wp2
            go_ret
            exact ⟨by rw [R.out]; rfl, HB3.out⟩
          · have R : Hid (fitsL pat p = fitsL rest behind) := by rw [Hid, FO.out, hsp]; rfl
            have CI : Hid (∀ W, Calls Tryz.prog 33 #[SV rest, SV behind] W fun e w' => e = .returned (.bool (fitsL rest behind)) ∧ Below W.heap.size W w') := fun W => ih rest behind W (by have := l3 rfl; have := m3 rfl; omega) (by omega) (by omega)
            clear ih FO hsp hr hc1 hc2 l3 m3
            generalize fitsL rest behind = fb at *
            go_enter Tryz.func33, Tryz.ntmps33
            go_wp2_with fail
            refine Calls.mono (show Calls _ _ _ _ _ from C1.out) ?_
            rintro e w1 ⟨rfl, hb1⟩
            have HB1 := Hid.mk' hb1
            clear hb1 C1
            go_wp2_with fail
            refine Calls.mono (show Calls _ _ _ _ _ from C2.out w1) ?_
            rintro e w2 ⟨rfl, hb2⟩
            have HB2 : Hid (Below w.heap.size w w2) := HB1.out.trans (hb2.mono HB1.out.size)
            clear hb2 C2 HB1
            go_wp2_with fail
            refine Calls.mono (show Calls _ _ _ _ _ from CS.out w2) ?_
            rintro e w3 ⟨rfl, m, rfl⟩
            have HB3 : Hid (Below w.heap.size w (w2.drewN m)) := HB2.out.trans (below_drewN (Below.refl _ _) _)
            clear CS HB2
            generalize w2.drewN m = w3 at *
            go_wp2_with fail
            refine Calls.mono (show Calls _ _ _ _ _ from CI.out w3) ?_
            rintro e w4 ⟨rfl, hb4⟩
            have HB4 : Hid (Below w.heap.size w w4) := HB3.out.trans (hb4.mono HB3.out.size)
            clear hb4 CI HB3
            go_wp2
            go_ret
            exact ⟨by rw [R.out]; rfl, HB4.out⟩
    · have hrn := run_eq hr
      cases more
      · have R : Hid (fitsL pat p = true) := fits_last hc1 hr
        subst hrn
        clear ih hr hc1 hc2 l3 m3
        go_enter Tryz.func33, Tryz.ntmps33
        go_wp2_with fail
        refine Calls.mono (show Calls _ _ _ _ _ from C1.out) ?_
        rintro e w1 ⟨rfl, hb1⟩
        have HB1 := Hid.mk' hb1
        clear hb1 C1
        go_wp2_with fail
        refine Calls.mono (show Calls _ _ _ _ _ from C2.out w1) ?_
        rintro e w2 ⟨rfl, hb2⟩
        have HB2 : Hid (Below w.heap.size w w2) := HB1.out.trans (hb2.mono HB1.out.size)
        clear hb2 C2 HB1
        go_wp2
        go_ret
        exact ⟨by rw [R.out]; rfl, HB2.out⟩
      · have R := Hid.mk' (fits_run hc1 hc2 hr)
        have CI : Hid (∀ W, Calls Tryz.prog 33 #[SV rest, SV p] W fun e w' => e = .returned (.bool (fitsL rest p)) ∧ Below W.heap.size W w') := fun W => ih rest p W (by have := l3 rfl; omega) (by omega) (by omega)
        have CJ : Hid (deeper = true → ∀ W, Calls Tryz.prog 33 #[SV pat, SV behind] W fun e w' => e = .returned (.bool (fitsL pat behind)) ∧ Below W.heap.size W w') := fun hd W => ih pat behind W (by have := m3 hd; omega) (by omega) (by omega)
        subst hrn
        clear ih hr hc1 hc2 l3 m3
        generalize fitsL rest p = f1 at *
        generalize fitsL pat behind = f2 at *
        go_enter Tryz.func33, Tryz.ntmps33
        go_wp2_with fail
        refine Calls.mono (show Calls _ _ _ _ _ from C1.out) ?_
        rintro e w1 ⟨rfl, hb1⟩
        have HB1 := Hid.mk' hb1
        clear hb1 C1
        go_wp2_with fail
        refine Calls.mono (show Calls _ _ _ _ _ from C2.out w1) ?_
        rintro e w2 ⟨rfl, hb2⟩
        have HB2 : Hid (Below w.heap.size w w2) := HB1.out.trans (hb2.mono HB1.out.size)
        clear hb2 C2 HB1
        go_wp2_with fail
        refine Calls.mono (show Calls _ _ _ _ _ from CI.out w2) ?_
        rintro e w3 ⟨rfl, hb3⟩
        have HB3 : Hid (Below w.heap.size w w3) := HB2.out.trans (hb3.mono HB2.out.size)
        clear hb3 CI HB2
        cases f1
        · cases deeper
          · clear CJ
            go_wp2
            go_ret
            exact ⟨by rw [R.out]; rfl, HB3.out⟩
          · have CK := Hid.mk' (CJ.out rfl)
            clear CJ
            go_wp2_with fail
            refine Calls.mono (show Calls _ _ _ _ _ from CK.out w3) ?_
            rintro e w4 ⟨rfl, hb4⟩
            have HB4 : Hid (Below w.heap.size w w4) := HB3.out.trans (hb4.mono HB3.out.size)
            clear hb4 CK HB3
            go_wp2
            go_ret
            exact ⟨by rw [R.out]; simp, HB4.out⟩
        · clear CJ
          go_wp2
          go_ret
          exact ⟨by rw [R.out]; rfl, HB3.out⟩

end Go.Proofs.YtdcbgfhkfmohiaaGreatDoor

/- Found: all that the statement asks of a list of files. No program. -/
namespace Go.Proofs.YtdcbgfhkfmohiaaGreatDoor
open Go.RowKit

theorem words_glob : ∀ t : Fin 584, splitL 32 (wGl ++ patK t.1) = [kGlob, patK t.1] := by decide +kernel
theorem words_path : ∀ k : Fin 84, splitL 32 (wEx ++ pathK k.1) = [kExists, pathK k.1] ∧ splitL 32 (wLi ++ pathK k.1) = [kList, pathK k.1] ∧ splitL 32 (wFi ++ pathK k.1 ++ [32, 47, 32, 98]) = [kFirst, [97], pathK k.1, [47], [98]] ∧ checkL (wFi ++ pathK k.1 ++ [32, 47, 32, 98]) = 0 := by decide +kernel
/-- What exists, list and first answer, in the statement's words. -/
def kindK (l : List Fl) (p : Str) : Str := if (inL l p).isEmpty then (if (valueK l p).2 = true then fileT else noT) else dirT
def listK (l : List Fl) (p : Str) : Str := if (inL l p).isEmpty then noT else ((l.map fun f => belowL f.1 p).foldl namesK ([58], [])).1
def firstK' (l : List Fl) (p : Str) : Str := if (valueK l (p ++ [47, 97])).2 = true then p ++ [47, 97] else if (valueK l [97]).2 = true then [97] else if (valueK l [98, 47, 97]).2 = true then [98, 47, 97] else noT
structure FoundR (l : List Fl) (g p : Str) : Prop where
  few : l.length ≤ 20
  path : ∀ f ∈ l, isPathL f.1 = true ∧ f.1.length ≤ 44
  order : ∀ k (h : k + 1 < l.length), lessK l[k].1 l[k + 1].1 = true
  glob : answerL l (splitL 32 (wGl ++ g)) = globL l g
  kind : answerL l (splitL 32 (wEx ++ p)) = kindK l p
  list : answerL l (splitL 32 (wLi ++ p)) = listK l p
  first : answerL l (splitL 32 (wFi ++ p ++ [32, 47, 32, 98])) = firstK' l p
theorem found_at {w0 w : World} {T : Bank} {r : RSt} (h : KAt w0 w T r) {n : Int} {l : List Fl} (hf : findL r.all n = some l) {t k : Nat} (ht : t < 584) (hk : k < 84) : FoundR l (patK t) (pathK k) := by
  have hfp := files_paths h hf
  obtain ⟨es, rfl, h1, h2, h3⟩ := find_wf h.ok h.ag hf
  have hp := (pathK_ok hk).1
  have hg := words_glob ⟨t, ht⟩
  have hw := words_path ⟨k, hk⟩
  simp only at hg hw
  refine ⟨hfp.1, hfp.2, ?_, ?_, ?_, ?_, ?_⟩
  · intro j hj
    have hs := sorted_filesE es h1
    unfold SortedN at hs
    have hv := (valid_files h1).1
    have hj' : j + 1 < (filesE es).length := by simpa [toF] using hj
    have e1 : (toF (filesE es))[j].1 = joinP (filesE es)[j].1 := by simp [toF]
    have e2 : (toF (filesE es))[j + 1].1 = joinP (filesE es)[j + 1].1 := by simp [toF]
    rw [e1, e2]
    exact lessK_paths (hv _ (List.getElem_mem _)) (hv _ (List.getElem_mem _)) (List.pairwise_iff_getElem.1 hs j (j + 1) (by omega) hj' (by omega))
  · rw [hg]; rfl
  · rw [hw.1]; exact kind_eq h1 hp
  · rw [hw.2.1]; exact list_eq h1 hp
  · rw [hw.2.2.1]; exact first_eq _ hp

theorem glob_step {l : List Fl} {g : Str} {k : Nat} (hk : k < l.length) : globL (l.take (k + 1)) g = globL (l.take k) g ++ (if fitsL g l[k].1 = true then l[k].1 ++ [10] else []) := by
  unfold globL
  rw [List.take_succ_eq_append_getElem hk, List.flatMap_append]
  simp
def stK (l : List Fl) (p : Str) (k : Nat) : Str × Str := ((l.take k).map fun f => belowL f.1 p).foldl namesK ([58], [])
theorem st_step {l : List Fl} {p : Str} {k : Nat} (hk : k < l.length) : stK l p (k + 1) = namesK (stK l p k) (belowL l[k].1 p) := by
  unfold stK
  rw [List.take_succ_eq_append_getElem hk, List.map_append, List.foldl_append]
  rfl
theorem in_step {l : List Fl} {p : Str} {k : Nat} (hk : k < l.length) : (inL (l.take (k + 1)) p).isEmpty = ((inL (l.take k) p).isEmpty && (belowL l[k].1 p).isEmpty) := by
  unfold inL
  rw [List.take_succ_eq_append_getElem hk, List.flatMap_append, List.flatMap_singleton]
  generalize (List.take k l).flatMap _ = L
  cases h : (belowL l[k].1 p).isEmpty <;> cases L <;> rfl
/-- The kind, behind the first files. -/
def kdK (l : List Fl) (p : Str) (k : Nat) : Str := if (inL (l.take k) p).isEmpty then (if (valueK l p).2 = true then fileT else noT) else dirT
theorem kd_none {l : List Fl} {p : Str} {k : Nat} (hk : k < l.length) (hb : belowL l[k].1 p = []) : kdK l p (k + 1) = kdK l p k := by
  unfold kdK; rw [in_step hk, hb]; simp
theorem kd_some {l : List Fl} {p : Str} {k : Nat} (hk : k < l.length) (hb : belowL l[k].1 p ≠ []) : kdK l p (k + 1) = dirT := by
  unfold kdK
  have : (belowL l[k].1 p).isEmpty = false := by
    cases h : belowL l[k].1 p with
    | nil => exact absurd h hb
    | cons _ _ => rfl
  rw [in_step hk, this]; simp
theorem labK_len (rest : Str) : (labK rest).length ≤ rest.length + 1 := by
  have := cut_len rest
  unfold labK
  split
  · rw [List.length_append, List.length_singleton]; omega
  · omega
theorem st_len {l : List Fl} {p : Str} (h : ∀ f ∈ l, f.1.length ≤ 44) (k : Nat) : (stK l p k).1.length ≤ 1 + 46 * k ∧ (stK l p k).2.length ≤ 45 := by
  induction k with
  | zero => simp [stK]
  | succ k ih =>
    by_cases hk : k < l.length
    · rw [st_step hk]
      have hb := belowL_len l[k].1 p
      have h1 := h l[k] (List.getElem_mem hk)
      have h2 := labK_len (belowL l[k].1 p)
      unfold namesK
      split
      · exact ⟨by omega, ih.2⟩
      · split
        · exact ⟨by omega, ih.2⟩
        · refine ⟨?_, by show (labK (belowL l[k].1 p)).length ≤ 45; omega⟩
          simp only [List.length_append]
          have : (if (stK l p k).2 = [] then ([] : Str) else [32]).length ≤ 1 := by split <;> simp
          omega
    · have : stK l p (k + 1) = stK l p k := by
        unfold stK; rw [List.take_of_length_le (by omega), List.take_of_length_le (by omega)]
      rw [this]
      exact ⟨by omega, ih.2⟩
theorem globK_len {l : List Fl} {g : Str} (h : ∀ f ∈ l, f.1.length ≤ 44) (k : Nat) : (globL (l.take k) g).length ≤ 45 * k := by
  induction k with
  | zero => simp [globL]
  | succ k ih =>
    by_cases hk : k < l.length
    · rw [glob_step hk, List.length_append]
      have h1 := h l[k] (List.getElem_mem hk)
      split
      · rw [List.length_append, List.length_singleton]; omega
      · simp; omega
    · rw [List.take_of_length_le (by omega)]
      rw [List.take_of_length_le (by omega)] at ih
      omega

end Go.Proofs.YtdcbgfhkfmohiaaGreatDoor

/- Found: the walk. -/
namespace Go.Proofs.YtdcbgfhkfmohiaaGreatDoor
open Go.RowKit
attribute [local go_sem] Oper.semAt_some

theorem found_later {base : Nat} {w w' : World} {v : Value} {l : List Fl} (h : FilesK base w v l) (hb : Below w.heap.size w w') : FilesK base w' v l := rowKept h fun k hk => hb.block k (World.ownsRow.lt h k hk).2
/-- What the four questions are answered. -/
structure FoundC (w : World) (T : Bank) (n : Nat) (l : List Fl) (g p : Str) : Prop where
  glob : ∀ W, Below w.heap.size w W → Calls Tryz.prog 32 #[ptrV T.sb, .int .i64 (n : Int), SV (wGl ++ g)] W fun e w' => DiffOut W (globL l g, 0) e w'
  kind : ∀ W, Below w.heap.size w W → Calls Tryz.prog 32 #[ptrV T.sb, .int .i64 (n : Int), SV (wEx ++ p)] W fun e w' => DiffOut W (kindK l p, 0) e w'
  list : ∀ W, Below w.heap.size w W → Calls Tryz.prog 32 #[ptrV T.sb, .int .i64 (n : Int), SV (wLi ++ p)] W fun e w' => DiffOut W (listK l p, 0) e w'
  first : ∀ W, Below w.heap.size w W → Calls Tryz.prog 32 #[ptrV T.sb, .int .i64 (n : Int), SV (wFi ++ p ++ [32, 47, 32, 98])] W fun e w' => DiffOut W (firstK' l p, 0) e w'
theorem found_calls {w0 w : World} {T : Bank} {r : RSt} (h : KAt w0 w T r) (hmx : MaxOk w0) {n : Nat} {l : List Fl} (hf : findL r.all (n : Int) = some l) {t k : Nat} (ht : t < 584) (hk : k < 84) : FoundC w T n l (patK t) (pathK k) := by
  have hR := found_at h hf ht hk
  have q1 := quest_pats ⟨t, ht⟩
  have q2 := quest_paths ⟨k, hk⟩
  have q3 := (words_path ⟨k, hk⟩).2.2.2
  have hA : ∀ W, Below w.heap.size w W → ∀ x, checkL x = 0 → Calls Tryz.prog 32 #[ptrV T.sb, .int .i64 (n : Int), SV x] W fun e w' => DiffOut W (answerL l (splitL 32 x), 0) e w' := fun W hW x hx => by
    have := storeAsk_any T r (n : Int) x W (h.ok.below hW) h.ag ((h.below hW).max hmx)
    rw [askR_ok hf hx] at this
    exact this
  refine ⟨fun W hW => ?_, fun W hW => ?_, fun W hW => ?_, fun W hW => ?_⟩
  · rw [← hR.glob]; exact hA W hW _ q1
  · rw [← hR.kind]; exact hA W hW _ q2.1
  · rw [← hR.list]; exact hA W hW _ q2.2.1
  · rw [← hR.first]; exact hA W hW _ q3

set_option maxHeartbeats 32000000 in
set_option maxRecDepth 50000 in
theorem kFound_any (v : Value) (len : Nat) (O : Nat → KStep) (ca cb cc : Int) (w : World) (h : StepsAt w v len O) (hok : ∀ i, i < len → (O i).ok) (hlen : len ≤ 2000000000000000) (ha : kIn ca) (hb : kIn cb) (hc : kIn cc) (hmx : MaxOk w) :
    Calls Tryz.prog 9 #[v, .int .i64 ca, .int .i64 cb, .int .i64 cc] w fun e w' => KBool w true e w' := by
  have C1 := kPlayed_any v len O w h hok hlen hmx
  have HMX := Hid.mk' hmx
  clear h hok hmx
  go_enter Tryz.func9, Tryz.ntmps9
  go_wp2_with fail
  refine C1.mono ?_
  rintro e w1 ⟨T, r, u, ns, rfl, hP⟩
  have hf := hP.pl.facts
  have hpos : 0 < ns.length := List.length_pos_iff.2 hf.2.2.1
  have hl11 := hf.2.2.2.1
  obtain ⟨g, cp, rfl, hg, hgb, hcp, hcm, hcell⟩ := ints_cells hP.row hf.2.2.1
  have CK := kPick_any ca ns.length w1 ha hpos (by omega)
  have hq := kN_lt ca hpos
  generalize kN ca ns.length = q at *
  have hqi : (q : Int) < (ns.length : Int) := by omega
  have da : w1.cell? ⟨g, q, none⟩ = some (.int .i64 (ns[q] : Int)) := hcell q hq
  obtain ⟨l, hl⟩ := hP.pl.find (List.getElem_mem hq)
  have HFR := Hid.mk' (found_at hP.st hl (kN_lt cb (n := 584) (by omega)) (kN_lt cc (n := 84) (by omega)))
  have HFC := Hid.mk' (found_calls hP.st HMX.out hl (kN_lt cb (n := 584) (by omega)) (kN_lt cc (n := 84) (by omega)))
  have HBASE := Hid.mk' hP.st.base
  have CU : Hid (Calls Tryz.prog 19 #[ptrV T.sb, .int .i64 (ns[q] : Int)] w1 fun e w' => KDump w1 (some l) e w') := by
    have := kDump_any T r (ns[q] : Int) w1 hP.st.ok hP.st.ag (hP.st.max HMX.out)
    rw [hl] at this
    exact this
  have hpk := (pathK_ok (kN_lt cc (n := 84) (by omega))).1
  have hpl := path_len (kN cc 84)
  have hgl := pat_len (kN cb 584)
  have CPT : Hid (∀ W, Calls Tryz.prog 31 #[.int .i64 cb] W fun e w' => KText W (patK (kN cb 584)) e w') := fun W => kPattern_any cb W hb
  have CPP : Hid (∀ W, Calls Tryz.prog 23 #[.int .i64 cc] W fun e w' => KText W (pathK (kN cc 84)) e w') := fun W => kPath_any cc W hc
  clear hP hf hcell C1 hl
  generalize ns[q] = n at *
  generalize patK (kN cb 584) = pg at *
  generalize pathK (kN cc 84) = p at *
  have HRP := Hid.mk' (path_ne_root hpk)
  have HPK := Hid.mk' hpk
  clear hpk ha hb hc
  unfold maxLen at hcm
  go_wp2_with fail
  refine CK.mono ?_
  rintro e w1 ⟨rfl, rfl⟩
  clear CK
  go_wp2_with fail
  refine Calls.mono (show Calls _ _ _ _ _ from CU.out) ?_
  rintro e w2 ⟨hb2, v2, rfl, hv2⟩
  have HB2 := Hid.mk' hb2
  have HV2 := Hid.mk' hv2
  obtain ⟨ao2, cap2, rfl⟩ := row_form hv2
  clear hb2 hv2 CU da hg hgb hcp hcm hq hqi hpos hl11
  go_wp2_with fail
  refine Calls.mono (show Calls _ _ _ _ _ from CPT.out w2) ?_
  rintro e w3 ⟨rfl, hb3⟩
  have HB3 : Hid (Below w1.heap.size w1 w3) := HB2.out.trans (hb3.mono HB2.out.size)
  have HV3 : Hid (FilesK w1.heap.size w3 (.slice ao2 l.length cap2) l) := found_later HV2.out hb3
  clear hb3 HB2 HV2 CPT
  have hap := app_list
  go_wp2_with fail
  refine Calls.mono (show Calls _ _ _ _ _ from HFC.out.glob w3 HB3.out) ?_
  rintro e w4 ⟨rfl, hb4⟩
  have HB4 : Hid (Below w1.heap.size w1 w4) := HB3.out.trans (hb4.mono HB3.out.size)
  have HV4 : Hid (FilesK w1.heap.size w4 (.slice ao2 l.length cap2) l) := found_later HV3.out hb4
  clear hb4 HB3 HV3
  have hl20 := HFR.out.few
  have HSH : Hid (∀ f ∈ l, f.1.length ≤ 44) := fun f hf => (HFR.out.path f hf).2
  obtain ⟨tg, htg⟩ : ∃ tg, globL l pg = tg := ⟨_, rfl⟩
  have HTG := Hid.mk' htg
  rw [htg]
  clear htg
  have HCL := Hid.mk' (filesK_cells HV4.out)
  go_wp2
  go_loopw [17, 18] (fun t i wr => ∃ (k : Nat) (s : Str), k ≤ l.length ∧ i = .int .i64 k ∧ t = SV s ∧ s = globL (l.take k) pg ∧ Below w4.heap.size w4 wr) (fun _ i _ => l.length - (intOf i).toNat)
  case atStart => exact ⟨0, [], Nat.zero_le _, rfl, rfl, rfl, Below.refl _ _⟩
  case round =>
    obtain ⟨k, s, hk, rfl, rfl, hs, hb⟩ := hrel
    have HS := Hid.mk' hs
    have HB := Hid.mk' hb
    have hsl : s.length ≤ 45 * k := by rw [hs]; exact globK_len HSH.out k
    clear hs hb
    by_cases hlt : k < l.length
    · as_aux_lemma =>
        have hki : (k : Int) < (l.length : Int) := by omega
        rcases HCL.out with ⟨_, h0⟩ | ⟨gf, cf, ef, hgf, hcf, hmf, hpf, hdf⟩
        · rw [h0] at hlt; simp at hlt
        simp only [Value.slice.injEq] at ef
        obtain ⟨rfl, -, rfl⟩ := ef
        have ck : wr.cell? ⟨gf, k * 2, none⟩ = some (SV l[k].1) := (HB.out.cell (p := ⟨gf, k * 2, none⟩) hgf).trans (hpf k hlt)
        have hgr : gf < wr.heap.size := Nat.lt_of_lt_of_le hgf HB.out.size
        have hkl := HSH.out l[k] (List.getElem_mem hlt)
        have CF := Hid.mk' (kFits_any 2000 pg l[k].1 wr (by omega) (by omega) (by omega))
        have HST := Hid.mk' (glob_step (g := pg) hlt)
        have HOR : Hid (∀ m, k = m + 1 → ∀ (hm : m < l.length) W, Below w4.heap.size w4 W → W.cell? ⟨gf, m * 2, none⟩ = some (SV l[m].1) ∧ lessK l[m].1 l[k].1 = true ∧ l[m].1.length ≤ 44) := fun m hm hml W hW => ⟨(hW.cell (p := ⟨gf, m * 2, none⟩) hgf).trans (hpf m hml), by
          have := HFR.out.order m (by omega)
          subst hm
          exact this, HSH.out _ (List.getElem_mem hml)⟩
        unfold maxLen at hmf
        clear hpf hdf
        generalize fitsL pg l[k].1 = fb at *
        generalize l[k].1 = pk at *
        go_wp2_with fail
        refine Calls.mono (show Calls _ _ _ _ _ from CF.out) ?_
        rintro e w5 ⟨rfl, hb5⟩
        have HB5 : Hid (Below w4.heap.size w4 w5) := HB.out.trans (hb5.mono HB.out.size)
        have ck5 : w5.cell? ⟨gf, k * 2, none⟩ = some (SV pk) := (hb5.cell (p := ⟨gf, k * 2, none⟩) hgr).trans ck
        have hgr5 : gf < w5.heap.size := Nat.lt_of_lt_of_le hgr hb5.size
        clear hb5 CF ck hgr HB
        go_upto_if 84 with fail
        go_cut [17] (fun t wd => wd = w5 ∧ t = SV (globL (l.take (k + 1)) pg))
        case first =>
          cases fb
          · have HE : Hid (s = globL (l.take (k + 1)) pg) := by rw [Hid, HST.out, HS.out]; simp
            go_wp2
            go_meet
            case rel => exact ⟨rfl, by rw [← HE.out]⟩
          · have HE : Hid (s ++ (pk ++ [10]) = globL (l.take (k + 1)) pg) := by rw [Hid, HST.out, HS.out]; simp
            go_wp2
            go_meet
            case rel => exact ⟨rfl, by rw [← HE.out]⟩
        case rest =>
          obtain ⟨rfl, rfl⟩ := hcut
          generalize wc = w5 at *
          clear HST HS
          by_cases hk0 : k = 0
          · have hk0i : ¬ (0 : Int) < (k : Int) := by omega
            clear hk0 HOR
            go_wp2
            go_roundw
            case rel => exact ⟨k + 1, _, by omega, by go_num, rfl, rfl, HB5.out⟩
            case measure => simp [intOf]; omega
          · obtain ⟨mm, hmm⟩ : ∃ mm, k = mm + 1 := ⟨k - 1, by omega⟩
            have hk0i : (0 : Int) < (k : Int) := by omega
            have emm : (k : Int) - 1 = (mm : Int) := by omega
            have hmmi : (mm : Int) < (l.length : Int) := by omega
            have hmlt : mm < l.length := by omega
            obtain ⟨cm, hle, hml⟩ := HOR.out mm hmm hmlt w5 HB5.out
            have CL : Hid (∀ W, Calls Tryz.prog 30 #[SV l[mm].1, SV pk] W fun e w' => e = .returned (.bool true) ∧ w' = W) := fun W => by
              have := kLess_any l[mm].1 pk W (by omega)
              rw [hle] at this
              exact this
            clear hmm hk0 hle HOR
            generalize l[mm].1 = pm at *
            go_wp2_with fail
            go_quiet (first | (go_at_call 30; exact Calls.quiet_of_same (CL.out _)))
            go_wp2
            go_roundw
            case rel => exact ⟨k + 1, _, by omega, by go_num, rfl, rfl, below_drewN HB5.out _⟩
            case measure => simp [intOf]; omega
    · as_aux_lemma =>
        have hki : ¬ (k : Int) < (l.length : Int) := by omega
        have hse : s = tg := by rw [HS.out, show k = l.length from by omega, List.take_length, HTG.out]
        subst hse
        have HB5 : Hid (Below w1.heap.size w1 wr) := HB4.out.trans (HB.out.mono HB4.out.size)
        have HV5 : Hid (FilesK w1.heap.size wr (.slice ao2 l.length cap2) l) := found_later HV4.out HB.out
        clear HS hsl HTG HCL HB HB4 HV4 hlt hk
        go_wp2_with fail
        refine Calls.mono (show Calls _ _ _ _ _ from CPP.out wr) ?_
        rintro e w6 ⟨rfl, hb6⟩
        have HB6 : Hid (Below w1.heap.size w1 w6) := HB5.out.trans (hb6.mono HB5.out.size)
        have HV6 : Hid (FilesK w1.heap.size w6 (.slice ao2 l.length cap2) l) := found_later HV5.out hb6
        have CV := Hid.mk' (kValue_any w1.heap.size l (.slice ao2 l.length cap2) p w6 HV6.out)
        clear hb6 HB5 HV5 CPP
        have HK0 : Hid (∀ b, (valueK l p).2 = b → kdK l p 0 = if b = true then fileT else noT) := fun b hb => by
          unfold kdK
          rw [hb]
          rfl
        obtain ⟨vv, hvv⟩ : ∃ vv, valueK l p = vv := ⟨_, rfl⟩
        rw [hvv] at CV HK0
        obtain ⟨vx, vy⟩ := vv
        simp only at CV HK0
        clear hvv
        go_wp2_with fail
        refine Calls.mono (show Calls _ _ _ _ _ from CV.out) ?_
        rintro e w6 ⟨rfl, rfl⟩
        clear CV
        go_upto_if 117 with fail
        go_cut [24] (fun kd wd => wd = w6 ∧ kd = SV (kdK l p 0))
        case first =>
          cases vy
          · have HE := Hid.mk' (HK0.out false rfl)
            go_wp2
            go_meet
            case rel => exact ⟨rfl, by rw [HE.out]; rfl⟩
          · have HE := Hid.mk' (HK0.out true rfl)
            go_wp2
            go_meet
            case rel => exact ⟨rfl, by rw [HE.out]; rfl⟩
        case rest =>
          obtain ⟨rfl, rfl⟩ := hcut
          clear HK0
          generalize wc = w6 at *
          have HCL := Hid.mk' (filesK_cells HV6.out)
          go_wp2
          go_loopw [24, 25, 26, 27] (fun kd nm la i wr => ∃ (k : Nat) (a b c : Str), k ≤ l.length ∧ i = .int .i64 k ∧ kd = SV a ∧ nm = SV b ∧ la = SV c ∧ a = kdK l p k ∧ (b, c) = stK l p k ∧ Below w6.heap.size w6 wr) (fun _ _ _ i _ => l.length - (intOf i).toNat)
          case atStart => exact ⟨0, kdK l p 0, [58], [], Nat.zero_le _, rfl, rfl, rfl, rfl, rfl, rfl, Below.refl _ _⟩
          case round =>
            obtain ⟨k, a, b, c, hk, rfl, rfl, rfl, rfl, hka, hst, hb⟩ := hrel
            have HB := Hid.mk' hb
            have hsl := st_len (p := p) HSH.out k
            rw [← hst] at hsl
            have hbl : b.length ≤ 1 + 46 * k := hsl.1
            have hcl : c.length ≤ 45 := hsl.2
            have HKA := Hid.mk' hka
            have HST := Hid.mk' hst
            clear hb hka hst hsl
            by_cases hlt : k < l.length
            · as_aux_lemma =>
                have hki : (k : Int) < (l.length : Int) := by omega
                rcases HCL.out with ⟨_, h0⟩ | ⟨gf, cf, ef, hgf, hcf, hmf, hpf, hdf⟩
                · rw [h0] at hlt; simp at hlt
                simp only [Value.slice.injEq] at ef
                obtain ⟨rfl, -, rfl⟩ := ef
                have ck : wr.cell? ⟨gf, k * 2, none⟩ = some (SV l[k].1) := (HB.out.cell (p := ⟨gf, k * 2, none⟩) hgf).trans (hpf k hlt)
                have hgr : gf < wr.heap.size := Nat.lt_of_lt_of_le hgf HB.out.size
                have hkl := HSH.out l[k] (List.getElem_mem hlt)
                have CB := Hid.mk' (kBelow_any l[k].1 p wr (by unfold maxLen; omega) (by unfold maxLen; omega) HRP.out)
                have HN := Hid.mk' (st_step (p := p) hlt)
                have HK1 : Hid (belowL l[k].1 p = [] → kdK l p (k + 1) = kdK l p k) := kd_none hlt
                have HK2 : Hid (belowL l[k].1 p ≠ [] → kdK l p (k + 1) = dirT) := kd_some hlt
                have hbw := belowL_len l[k].1 p
                unfold maxLen at hmf
                clear hpf hdf
                generalize belowL l[k].1 p = rest at *
                generalize l[k].1 = pk at *
                rw [← HST.out] at HN
                clear HST
                rcases rest with _ | ⟨rx, rr⟩
                · have HE1 : Hid ((b, c) = stK l p (k + 1)) := by rw [Hid, HN.out]; rfl
                  have HE2 : Hid (a = kdK l p (k + 1)) := by rw [Hid, HK1.out rfl]; exact HKA.out
                  clear HN HK1 HK2 HKA
                  go_wp2_with fail
                  refine Calls.mono (show Calls _ _ _ _ _ from CB.out) ?_
                  rintro e wr ⟨rfl, rfl⟩
                  clear CB
                  go_wp2
                  go_roundw
                  case rel => exact ⟨k + 1, a, b, c, by omega, by go_num, rfl, rfl, rfl, HE2.out, HE1.out, HB.out⟩
                  case measure => simp [intOf]; omega
                · have HE2 : Hid (dirT = kdK l p (k + 1)) := by rw [Hid, HK2.out (by simp)]
                  have CC := Hid.mk' (kCut_any (rx :: rr) wr (by simp only [List.length_cons] at hbw ⊢; omega))
                  have hll := labK_len (rx :: rr)
                  have HLB : Hid (labK (rx :: rr) = if (cutK (rx :: rr)).2.2 = true then (cutK (rx :: rr)).1 ++ [47] else (cutK (rx :: rr)).1) := rfl
                  have hcc := (cut_len (rx :: rr)).1
                  obtain ⟨⟨nx, ny, nd⟩, hc3⟩ : ∃ x, cutK (rx :: rr) = x := ⟨_, rfl⟩
                  rw [hc3] at CC HLB hcc
                  simp only [List.length_cons] at HLB hcc hll hbw
                  have HNE : Hid (namesK (b, c) (rx :: rr) = if labK (rx :: rr) = c then (b, c) else (b ++ (if c = [] then [] else [32]) ++ labK (rx :: rr), labK (rx :: rr))) := rfl
                  rw [HNE.out] at HN
                  generalize labK (rx :: rr) = lab at *
                  clear hc3 HK1 HK2 HKA HNE
                  go_wp2_with fail
                  refine Calls.mono (show Calls _ _ _ _ _ from CB.out) ?_
                  rintro e wr ⟨rfl, rfl⟩
                  clear CB
                  go_wp2_with fail
                  refine Calls.mono (show Calls _ _ _ _ _ from CC.out) ?_
                  rintro e w7 ⟨rfl, hb7⟩
                  have HB7 : Hid (Below w6.heap.size w6 w7) := HB.out.trans (hb7.mono HB.out.size)
                  clear hb7 CC HB ck
                  go_upto_if 139 with fail
                  go_cut [29] (fun nv wd => wd = w7 ∧ nv = SV lab)
                  case first =>
                    cases nd
                    · go_wp2
                      go_meet
                      case rel => exact ⟨rfl, by rw [HLB.out]; rfl⟩
                    · go_wp2
                      go_meet
                      case rel => exact ⟨rfl, by rw [HLB.out]; rfl⟩
                  case rest =>
                    obtain ⟨rfl, rfl⟩ := hcut
                    clear HLB
                    generalize wc = w7 at *
                    by_cases hlc : lab = c
                    · have HE1 : Hid ((b, c) = stK l p (k + 1)) := by rw [Hid, HN.out, if_pos hlc]
                      have hlB : (lab == c) = true := by simpa using hlc
                      clear HN
                      go_wp2
                      go_roundw
                      case rel => exact ⟨k + 1, dirT, b, c, by omega, by go_num, rfl, rfl, rfl, HE2.out, HE1.out, HB7.out⟩
                      case measure => simp [intOf]; omega
                    · have hlB : (lab == c) = false := by simpa using hlc
                      by_cases hc0 : c = []
                      · have HE1 : Hid ((b ++ lab, lab) = stK l p (k + 1)) := by rw [Hid, HN.out, if_neg hlc, if_pos hc0]; simp
                        subst hc0
                        clear HN
                        go_wp2
                        go_roundw
                        case rel => exact ⟨k + 1, dirT, b ++ lab, lab, by omega, by go_num, rfl, rfl, rfl, HE2.out, HE1.out, HB7.out⟩
                        case measure => simp [intOf]; omega
                      · have HE1 : Hid ((b ++ [32] ++ lab, lab) = stK l p (k + 1)) := by rw [Hid, HN.out, if_neg hlc, if_neg hc0]
                        have hcB : (c == []) = false := by simpa using hc0
                        clear HN
                        go_wp2
                        go_roundw
                        case rel => exact ⟨k + 1, dirT, b ++ [32] ++ lab, lab, by omega, by go_num, rfl, by simp, rfl, HE2.out, HE1.out, HB7.out⟩
                        case measure => simp [intOf]; omega
            · as_aux_lemma =>
                have hki : ¬ (k : Int) < (l.length : Int) := by omega
                have hke : k = l.length := by omega
                have HKE : Hid (a = kindK l p) := by rw [Hid, HKA.out, hke, kdK, List.take_length]; rfl
                have HSE : Hid (b = ((l.map fun f => belowL f.1 p).foldl namesK ([58], [])).1) := by
                  have := congrArg Prod.fst HST.out
                  rw [hke] at this
                  unfold stK at this
                  rw [List.take_length] at this
                  exact this
                have HB7 : Hid (Below w1.heap.size w1 wr) := HB6.out.trans (HB.out.mono HB6.out.size)
                have HV7 : Hid (FilesK w1.heap.size wr (.slice ao2 l.length cap2) l) := found_later HV6.out HB.out
                have hll : (listK l p).length ≤ 2 + 46 * k := by
                  unfold listK
                  split
                  · simp [noT]
                  · rw [← HSE.out]; omega
                clear HKA HST HCL HB HB6 HV6 hlt hke
                go_upto_if 154 with fail
                go_cut [25] (fun nm wd => wd = wr ∧ nm = SV (listK l p))
                case first =>
                  cases hi : (inL l p).isEmpty
                  · have e1 : a = dirT := by rw [HKE.out, kindK, if_neg (by rw [hi]; simp)]
                    have HE : Hid (b = listK l p) := by rw [Hid, listK, if_neg (by rw [hi]; simp)]; exact HSE.out
                    subst e1
                    clear hi
                    go_wp2
                    go_meet
                    case rel => exact ⟨rfl, by rw [← HE.out]⟩
                  · have e1 : a = if (valueK l p).2 = true then fileT else noT := by rw [HKE.out, kindK, if_pos hi]
                    have HE : Hid (noT = listK l p) := by rw [Hid, listK, if_pos hi]
                    cases hv : (valueK l p).2
                    · rw [hv] at e1
                      have e2 : a = noT := e1
                      subst e2
                      clear hi hv e1
                      go_wp2
                      go_meet
                      case rel => exact ⟨rfl, by rw [← HE.out]; rfl⟩
                    · rw [hv] at e1
                      have e2 : a = fileT := e1
                      subst e2
                      clear hi hv e1
                      go_wp2
                      go_meet
                      case rel => exact ⟨rfl, by rw [← HE.out]; rfl⟩
                case rest =>
                  obtain ⟨rfl, rfl⟩ := hcut
                  have hka := HKE.out
                  subst hka
                  clear HKE HSE
                  generalize wc = wr at *
                  as_aux_lemma =>
                    obtain ⟨tk, htk⟩ : ∃ tk, kindK l p = tk := ⟨_, rfl⟩
                    obtain ⟨tl, htl⟩ : ∃ tl, listK l p = tl := ⟨_, rfl⟩
                    obtain ⟨tf, htf⟩ : ∃ tf, firstK' l p = tf := ⟨_, rfl⟩
                    have CK := Hid.mk' HFC.out.kind
                    have CL := Hid.mk' HFC.out.list
                    have CF := Hid.mk' HFC.out.first
                    rw [htk] at CK ⊢
                    rw [htl] at CL ⊢
                    rw [htf] at CF
                    have HTF : Hid (tf = if (valueK l (p ++ [47, 97])).2 = true then p ++ [47, 97] else if (valueK l [97]).2 = true then [97] else if (valueK l [98, 47, 97]).2 = true then [98, 47, 97] else noT) := by rw [Hid, ← htf]; rfl
                    clear htk htl htf HFC hll
                    go_wp2_with fail
                    refine Calls.mono (show Calls _ _ _ _ _ from CK.out wr HB7.out) ?_
                    rintro e w8 ⟨rfl, hb8⟩
                    have HB8 : Hid (Below w1.heap.size w1 w8) := HB7.out.trans (hb8.mono HB7.out.size)
                    have HV8 : Hid (FilesK w1.heap.size w8 (.slice ao2 l.length cap2) l) := found_later HV7.out hb8
                    clear hb8 CK HB7 HV7
                    go_wp2_with fail
                    refine Calls.mono (show Calls _ _ _ _ _ from CL.out w8 HB8.out) ?_
                    rintro e w9 ⟨rfl, hb9⟩
                    have HB9 : Hid (Below w1.heap.size w1 w9) := HB8.out.trans (hb9.mono HB8.out.size)
                    have HV9 : Hid (FilesK w1.heap.size w9 (.slice ao2 l.length cap2) l) := found_later HV8.out hb9
                    clear hb9 CL HB8 HV8
                    go_wp2_with fail
                    refine Calls.mono (show Calls _ _ _ _ _ from CF.out w9 HB9.out) ?_
                    rintro e w10 ⟨rfl, hb10⟩
                    have HB10 : Hid (Below w1.heap.size w1 w10) := HB9.out.trans (hb10.mono HB9.out.size)
                    have HV10 : Hid (FilesK w1.heap.size w10 (.slice ao2 l.length cap2) l) := found_later HV9.out hb10
                    clear hb10 CF HB9 HV9
                    have V1 := Hid.mk' (kValue_any w1.heap.size l (.slice ao2 l.length cap2) [98, 47, 97] w10 HV10.out)
                    have V2' := Hid.mk' (kValue_any w1.heap.size l (.slice ao2 l.length cap2) [97] w10 HV10.out)
                    have V3 := Hid.mk' (kValue_any w1.heap.size l (.slice ao2 l.length cap2) (p ++ [47, 97]) w10 HV10.out)
                    obtain ⟨⟨x1, y1⟩, h1⟩ : ∃ z, valueK l [98, 47, 97] = z := ⟨_, rfl⟩
                    obtain ⟨⟨x2, y2⟩, h2⟩ : ∃ z, valueK l [97] = z := ⟨_, rfl⟩
                    obtain ⟨⟨x3, y3⟩, h3⟩ : ∃ z, valueK l (p ++ [47, 97]) = z := ⟨_, rfl⟩
                    rw [h1] at V1 HTF
                    rw [h2] at V2' HTF
                    rw [h3] at V3 HTF
                    simp only at V1 V2' V3 HTF
                    have R : Hid (KBool w true (.returned (.bool true)) w10) := ⟨rfl, HBASE.out.trans (HB10.out.mono HBASE.out.size)⟩
                    clear h1 h2 h3 HB10 HV10
                    go_wp2_with fail
                    refine Calls.mono (show Calls _ _ _ _ _ from V1.out) ?_
                    rintro e w10 ⟨rfl, rfl⟩
                    clear V1
                    go_upto_if 185 with fail
                    go_cut [38] (fun o wd => wd = w10 ∧ o = SV (if y1 = true then [98, 47, 97] else noT))
                    case first =>
                      cases y1
                      · go_wp2
                        go_meet
                        case rel => exact ⟨rfl, rfl⟩
                      · go_wp2
                        go_meet
                        case rel => exact ⟨rfl, rfl⟩
                    case rest =>
                      obtain ⟨rfl, rfl⟩ := hcut
                      generalize wc = w10 at *
                      generalize (if y1 = true then ([98, 47, 97] : Str) else noT) = o1 at *
                      go_wp2_with fail
                      refine Calls.mono (show Calls _ _ _ _ _ from V2'.out) ?_
                      rintro e w10 ⟨rfl, rfl⟩
                      clear V2'
                      go_upto_if 191 with fail
                      go_cut [38] (fun o wd => wd = w10 ∧ o = SV (if y2 = true then [97] else o1))
                      case first =>
                        cases y2
                        · go_wp2
                          go_meet
                          case rel => exact ⟨rfl, rfl⟩
                        · go_wp2
                          go_meet
                          case rel => exact ⟨rfl, rfl⟩
                      case rest =>
                        obtain ⟨rfl, rfl⟩ := hcut
                        generalize wc = w10 at *
                        generalize (if y2 = true then ([97] : Str) else o1) = o2 at *
                        go_wp2_with fail
                        refine Calls.mono (show Calls _ _ _ _ _ from V3.out) ?_
                        rintro e w10 ⟨rfl, rfl⟩
                        clear V3
                        go_upto_if 199 with fail
                        go_cut [38] (fun o wd => wd = w10 ∧ o = SV tf)
                        case first =>
                          cases y3
                          · go_wp2
                            go_meet
                            case rel => exact ⟨rfl, by rw [HTF.out]; rfl⟩
                          · go_wp2
                            go_meet
                            case rel => exact ⟨rfl, by rw [HTF.out]; rfl⟩
                        case rest =>
                          obtain ⟨rfl, rfl⟩ := hcut
                          clear HTF
                          generalize wc = w10 at *
                          go_wp2
                          go_ret
                          exact R.out

end Go.Proofs.YtdcbgfhkfmohiaaGreatDoor
