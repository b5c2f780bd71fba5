/- The program's trees: put, whole. -/
import Derived.Test.YtdcbgfhkfmohiaaGreatDoorKb06
import Derived.LaidEql
import Derived.ChangeKeysEq
import Derived.WideKeyRuns
import Derived.MapKept
namespace Go.Proofs.YtdcbgfhkfmohiaaGreatDoor
open Go.RowKit

set_option maxHeartbeats 8000000 in
set_option maxRecDepth 50000 in
theorem putDir_any (Q : Nat → Int → Prop) (q : List Str) : ∀ (b : Nat) (u : Int) (vs : List (Str × Value)) (es : Ents) (k n : Nat) (t : Tree) (nv : Value) (w : World), q ≠ [] → DirAt w b u vs → RepE w Q vs es → WFE es →
    NamesAt w nv q → RepT w Q (.iface k (.pointer (some ⟨n, 0, none⟩))) t → WFT t → (∀ x ∈ q, isNameL x false = true) → (filesE (putE es q t)).length ≤ 20 → (∀ j, w.heap.size ≤ j → Q j 0) →
    Calls Tryz.prog 64 #[.pointer (some ⟨b, 0, none⟩), nv, .iface k (.pointer (some ⟨n, 0, none⟩))] w fun e w' => PutOut w Q (putE es q t) e w' := by
  induction q with
  | nil => intro b u vs es k n t nv w h; exact absurd rfl h
  | cons x r ih =>
    intro b u vs es k n t nv w _ h he hw hn hr ht hok hfit hQ
    cases r with
    | nil => rw [putE] at hfit ⊢; exact put_one Q b u vs es x k n t nv w h he hn hr (room_of he hw (hok x (by simp)) ht hfit)
    | cons y r =>
      have Hput : Hid (putE es (x :: y :: r) t = withE es x (.dir (putE (belowE es x) (y :: r) t))) := by rw [Hid, putE]
      have hin := put_wf (q := y :: r) (belowE_wf hw x) (fun z hz => hok z (by simp [hz])) ht
      have hwd : WFT (.dir (putE (belowE es x) (y :: r) t)) := by unfold WFT; exact ⟨hin.2 (by simp), hin.1⟩
      rw [Hput.out] at hfit
      have hfi : (filesE (putE (belowE es x) (y :: r) t)).length ≤ 20 := by
        have := with_files_le (es := es) (x := x) (t := .dir (putE (belowE es x) (y :: r) t))
        rw [filesT] at this; omega
      have hroom := room_of he hw (hok x (by simp)) hwd hfit
      have hL := h.list
      have hbl := h.lt
      have hforms := he.forms
      have hl20 := h.1
      obtain ⟨ao, cap, rfl, hc, hm⟩ := names_form hn
      have ha : ∃ a, ao = some a := by
        obtain ⟨ao', cap', h1, _, _, h4⟩ := hn
        simp only [Value.slice.injEq] at h1
        obtain ⟨g, o, h5, _⟩ := h4 0 (by simp)
        exact ⟨_, h1.1.trans h5⟩
      obtain ⟨a, rfl⟩ := ha
      obtain ⟨g, o, rfl, hnn, hnc, hcm, hg, hcx, htail⟩ := names_tail hn
      have hcap2 : (r.length + 1 + 1 : Nat) ≤ cap := by simpa using hnc
      have HD : Hid (DirAt w b u vs) := h
      have HE : Hid (RepE w Q vs es) := he
      have HR : Hid (RepT w Q (.iface k (.pointer (some ⟨n, 0, none⟩))) t) := hr
      have HT : Hid (∀ W, Below w.heap.size w W → NamesAt W (.slice (some ⟨g, o + 1, none⟩) (r.length + 1) (cap - 1)) (y :: r)) := by
        intro W hW
        exact names_below (htail (some ⟨g, o + 1, none⟩) (cap - 1) (r.length + 1) (fun _ => rfl) (by simp) (by omega) (by omega)) hW (Nat.le_refl _)
      have HI : Hid _ := ih
      have HQ : Hid (∀ j, w.heap.size ≤ j → Q j 0) := hQ
      have hc1 : ¬ cap = 1 := by omega
      have hc2 : ¬ (cap : Int) = 1 := by omega
      have hcap1 : (1 : Int) ≤ (r.length : Int) + 1 + 1 := by omega
      have hcapI : (r.length : Int) + 1 + 1 ≤ (cap : Int) := by omega
      unfold maxLen at hcm
      clear hn h he hr htail ih hQ hnn hnc hc hin hfit
      go_enter Tryz.func64, Tryz.ntmps64
      go_wp2
      go_quiet (fail)
      go_wp2_with fail
      have hq0 : Below w.heap.size w (w.drewN nq) := below_drewN (Below.refl w.heap.size w) _
      refine (below_dir Q b u vs es x _ (HD.out.below hq0 (Nat.le_refl _)) (HE.out.later hq0 (Nat.le_refl _)) hw).mono ?_
      rintro e w1 ⟨b2, u2, vs2, rfl, hd2, he2, hb2⟩
      have hb1 : Below w.heap.size w w1 := hq0.trans (hb2.mono hq0.size)
      have HB1 : Hid (Below w.heap.size w w1) := hb1
      have HD2 : Hid (DirAt w1 b2 u2 vs2) := hd2
      have HE2 : Hid (RepE w1 Q vs2 (belowE es x)) := he2
      clear hd2 he2 hb2 hq0 hb1
      go_wp2_with fail
      refine (HI.out b2 u2 vs2 (belowE es x) k n t _ _ (by simp) HD2.out HE2.out (belowE_wf hw x) (HT.out _ HB1.out) (HR.out.later HB1.out (Nat.le_refl _)) ht (fun z hz => hok z (by simp [hz])) hfi (fun j hj => HQ.out j (Nat.le_trans HB1.out.size hj))).mono ?_
      rintro e w3 ⟨b3, vs3, hb3, rfl, hd3, he3, hbb3⟩
      have hb13 : Below w.heap.size w w3 := HB1.out.trans (hbb3.mono HB1.out.size)
      have HB3 : Hid (Below w.heap.size w w3) := hb13
      have HRD : Hid (RepT w3 Q (.iface 89 (.pointer (some ⟨b3, 0, none⟩))) (.dir (putE (belowE es x) (y :: r) t))) := .dir hd3 (HQ.out b3 (Nat.le_trans HB1.out.size hb3)) he3
      have hL3 : ListAt w3 b 1 vs := (HD.out.below hb13 (Nat.le_refl _)).list
      have hcells : ∀ W : World, Like W w3 → ∀ j v, (listCells vs)[j]? = some v → W.cell? ((⟨b, 1, none⟩ : Addr).add j) = some v := by
        intro W hW j v hj
        have hadd : (⟨b, 1, none⟩ : Addr).add j = ⟨b, 1 + j, none⟩ := by unfold Addr.add; split <;> simp_all
        rw [hadd, World.cell?_of_block (w := w3) (by rw [hW.heap])]
        exact hL3.cell j v hj
      have HC : Hid _ := hcells
      have HSZ : Hid ((Tryz.prog.info? 147).map (·.size) = some (listCells vs).length) := by rw [Hid, Tryz.sizeListing, listCells_len hl20]
      have hwl := listCells_len (withV_len (v := .iface 89 (.pointer (some ⟨b3, 0, none⟩))) hl20 hroom)
      have HWL : Hid _ := withV_len (v := .iface 89 (.pointer (some ⟨b3, 0, none⟩))) hl20 hroom
      have hbl3 : b < w3.heap.size := Nat.lt_of_lt_of_le hbl hb13.size
      clear hb3 hd3 he3 hbb3 hb13 hL3 hcells hL hg hcx HD2 HE2 HB1 HT HI hbl
      go_upto_region 4 with fail
      go_wp2_with (first | (refine wpList_load_cells rfl 147 (.tmp 26) rfl ⟨b, 1, none⟩ rfl (listCells vs) _ ?_ Tryz.underlying147 rfl HSZ.out ?_; exact HC.out _ ⟨rfl, rfl, rfl, rfl⟩) | (go_at_call 94; refine (with_any vs x 89 b3 _ hforms hl20 hroom).mono ?_; rintro e w2 ⟨rfl, hb2⟩; generalize hLW : listCells (withV vs x (.iface 89 (.pointer (some ⟨b3, 0, none⟩)))) = LW at *; have HLW := Hid.mk' hLW; clear hLW))
      all_goals
        go_ret
        have hbe : Below w.heap.size w w2 := HB3.out.trans (hb2.mono HB3.out.size)
        have hbe' := hbe.alloc hbe.size
        refine ⟨w2.heap.size, withV vs x (.iface 89 (.pointer (some ⟨b3, 0, none⟩))), hbe.size, rfl, ⟨HWL.out, ?_⟩, Hput.out ▸ rep_with ?_ ?_, ?_⟩
        · rw [heap_alloc_new, fold_dir rfl hwl rfl, HLW.out]
        · exact HE.out.later (hbe' _) (Nat.le_refl _)
        · exact HRD.out.later (hb2.alloc hb2.size _) (Nat.le_refl _)
        · exact hbe' _

end Go.Proofs.YtdcbgfhkfmohiaaGreatDoor

/- The program's trees: remove. -/
namespace Go.Proofs.YtdcbgfhkfmohiaaGreatDoor
open Go.RowKit

theorem withoutV_len {vs : List (Str × Value)} {x : Str} (hl : vs.length ≤ 20) : (withoutV vs x).length ≤ 20 := by
  unfold withoutV
  split
  · rw [List.length_eraseIdx]; split <;> omega
  · exact hl

theorem removeE_nil (q : List Str) : removeE [] q = [] := by
  induction q with
  | nil => rfl
  | cons x r ih =>
    cases r with
    | nil => rfl
    | cons y r =>
      rw [removeE]
      have : belowE [] x = [] := rfl
      rw [this, ih, if_pos rfl]; rfl

theorem findE_some_of_below {es : Ents} {x : Str} (h : belowE es x ≠ []) : (findE es x).isSome = true := by
  unfold belowE at h
  cases hf : findE es x with
  | none => rw [hf] at h; exact absurd rfl h
  | some t => rfl

set_option maxHeartbeats 4000000 in
set_option maxRecDepth 50000 in
theorem remove_one (Q : Nat → Int → Prop) (b : Nat) (u : Int) (vs : List (Str × Value)) (es : Ents) (x : Str) (nv : Value) (w : World) (h : DirAt w b u vs) (he : RepE w Q vs es) (hw : WFE es)
    (hn : NamesAt w nv [x]) :
    Calls Tryz.prog 66 #[.pointer (some ⟨b, 0, none⟩), nv] w fun e w' => PutOut w Q (withoutE es x) e w' := by
  have hL := h.list
  have hbl := h.lt
  have hforms := he.forms
  have hl20 := h.1
  obtain ⟨ao, cap, rfl, hc, hm⟩ := names_form hn
  have ha : ∃ a, ao = some a := by
    obtain ⟨ao', cap', h1, _, _, h4⟩ := hn
    simp only [Value.slice.injEq] at h1
    obtain ⟨g, o, h5, _⟩ := h4 0 (by simp)
    exact ⟨_, h1.1.trans h5⟩
  obtain ⟨a, rfl⟩ := ha
  obtain ⟨g, o, rfl, _, hnc, hcm, hg, hcx, _⟩ := names_tail hn
  unfold maxLen at hcm
  have hcap1 : (1 : Int) ≤ (cap : Int) := by simp at hnc; omega
  have HE : Hid (RepE w Q vs es) := he
  have hcells : ∀ W : World, Like W w → ∀ j v, (listCells vs)[j]? = some v → W.cell? ((⟨b, 1, none⟩ : Addr).add j) = some v := by
    intro W hW j v hj
    have hadd : (⟨b, 1, none⟩ : Addr).add j = ⟨b, 1 + j, none⟩ := by unfold Addr.add; split <;> simp_all
    rw [hadd, World.cell?_of_block (w := w) (by rw [hW.heap])]
    exact hL.cell j v hj
  have HC : Hid _ := hcells
  have HSZ : Hid ((Tryz.prog.info? 147).map (·.size) = some (listCells vs).length) := by rw [Hid, Tryz.sizeListing, listCells_len hl20]
  have hwl := listCells_len (withoutV_len (x := x) hl20)
  have HWL : Hid _ := withoutV_len (x := x) hl20
  clear hn h he hL hcells
  go_enter Tryz.func66, Tryz.ntmps66
  go_wp2
  go_quiet (fail)
  go_upto_region 6 with fail
  go_wp2_with (first | (refine wpList_load_cells rfl 147 (.tmp 39) rfl ⟨b, 1, none⟩ rfl (listCells vs) _ ?_ Tryz.underlying147 rfl HSZ.out ?_; exact HC.out _ ⟨rfl, rfl, rfl, rfl⟩) | (go_at_call 96; refine (without_list vs x _ hforms hl20).mono ?_; rintro e w2 ⟨rfl, hb2⟩; generalize hLW : listCells (withoutV vs x) = LW at *; have HLW := Hid.mk' hLW; clear hLW))
  all_goals
    go_ret
    refine ⟨w2.heap.size, withoutV vs x, hb2.size, rfl, ⟨HWL.out, ?_⟩, rep_without ?_ hw x, ?_⟩
    · rw [heap_alloc_new, fold_dir rfl hwl rfl, HLW.out]
    · exact HE.out.later (((below_drewN (Below.refl w.heap.size w) _).trans hb2).alloc hb2.size _) (Nat.le_refl _)
    · exact ((below_drewN (Below.refl w.heap.size w) _).trans hb2).alloc hb2.size _

set_option maxHeartbeats 8000000 in
set_option maxRecDepth 50000 in
theorem removeDir_any (Q : Nat → Int → Prop) (q : List Str) : ∀ (b : Nat) (u : Int) (vs : List (Str × Value)) (es : Ents) (nv : Value) (w : World), q ≠ [] → DirAt w b u vs → RepE w Q vs es → WFE es →
    NamesAt w nv q → (∀ j, w.heap.size ≤ j → Q j 0) →
    Calls Tryz.prog 66 #[.pointer (some ⟨b, 0, none⟩), nv] w fun e w' => PutOut w Q (removeE es q) e w' := by
  induction q with
  | nil => intro b u vs es nv w h; exact absurd rfl h
  | cons x r ih =>
    intro b u vs es nv w _ h he hw hn hQ
    cases r with
    | nil => rw [removeE]; exact remove_one Q b u vs es x nv w h he hw hn
    | cons y r =>
      have Hrem : Hid (removeE es (x :: y :: r) = if removeE (belowE es x) (y :: r) = [] then withoutE es x else withE es x (.dir (removeE (belowE es x) (y :: r)))) := by rw [Hid, removeE]
      have hL := h.list
      have hbl := h.lt
      have hforms := he.forms
      have hl20 := h.1
      obtain ⟨ao, cap, rfl, hc, hm⟩ := names_form hn
      have ha : ∃ a, ao = some a := by
        obtain ⟨ao', cap', h1, _, _, h4⟩ := hn
        simp only [Value.slice.injEq] at h1
        obtain ⟨g, o, h5, _⟩ := h4 0 (by simp)
        exact ⟨_, h1.1.trans h5⟩
      obtain ⟨a, rfl⟩ := ha
      obtain ⟨g, o, rfl, hnn, hnc, hcm, hg, hcx, htail⟩ := names_tail hn
      have hcap2 : (r.length + 1 + 1 : Nat) ≤ cap := by simpa using hnc
      have HD : Hid (DirAt w b u vs) := h
      have HE : Hid (RepE w Q vs es) := he
      have HT : Hid (∀ W, Below w.heap.size w W → NamesAt W (.slice (some ⟨g, o + 1, none⟩) (r.length + 1) (cap - 1)) (y :: r)) := by
        intro W hW
        exact names_below (htail (some ⟨g, o + 1, none⟩) (cap - 1) (r.length + 1) (fun _ => rfl) (by simp) (by omega) (by omega)) hW (Nat.le_refl _)
      have HI : Hid _ := ih
      have HQ : Hid (∀ j, w.heap.size ≤ j → Q j 0) := hQ
      have hroom0 : belowE es x ≠ [] → thereE vs x = true := fun hne => by rw [there_iff he hw]; exact findE_some_of_below hne
      have hc1 : ¬ cap = 1 := by omega
      have hc2 : ¬ (cap : Int) = 1 := by omega
      have hcap1 : (1 : Int) ≤ (r.length : Int) + 1 + 1 := by omega
      have hcapI : (r.length : Int) + 1 + 1 ≤ (cap : Int) := by omega
      unfold maxLen at hcm
      clear hn h he htail ih hQ hnn hnc hc
      go_enter Tryz.func66, Tryz.ntmps66
      go_wp2
      go_quiet (fail)
      go_wp2_with fail
      have hq0 : Below w.heap.size w (w.drewN nq) := below_drewN (Below.refl w.heap.size w) _
      refine (below_dir Q b u vs es x _ (HD.out.below hq0 (Nat.le_refl _)) (HE.out.later hq0 (Nat.le_refl _)) hw).mono ?_
      rintro e w1 ⟨b2, u2, vs2, rfl, hd2, he2, hb2⟩
      have hb1 : Below w.heap.size w w1 := hq0.trans (hb2.mono hq0.size)
      have HB1 : Hid (Below w.heap.size w w1) := hb1
      have HD2 : Hid (DirAt w1 b2 u2 vs2) := hd2
      have HE2 : Hid (RepE w1 Q vs2 (belowE es x)) := he2
      clear hd2 he2 hb2 hq0 hb1
      go_wp2_with fail
      refine (HI.out b2 u2 vs2 (belowE es x) _ _ (by simp) HD2.out HE2.out (belowE_wf hw x) (HT.out _ HB1.out) (fun j hj => HQ.out j (Nat.le_trans HB1.out.size hj))).mono ?_
      rintro e w3 ⟨b3, vs3, hb3, rfl, hd3, he3, hbb3⟩
      have hb13 : Below w.heap.size w w3 := HB1.out.trans (hbb3.mono HB1.out.size)
      have HB3 : Hid (Below w.heap.size w w3) := hb13
      have HRD : Hid (RepT w3 Q (.iface 89 (.pointer (some ⟨b3, 0, none⟩))) (.dir (removeE (belowE es x) (y :: r)))) := .dir hd3 (HQ.out b3 (Nat.le_trans HB1.out.size hb3)) he3
      have hcnt := hd3.list.count
      have hlen3 := he3.len
      have hL3 : ListAt w3 b 1 vs := (HD.out.below hb13 (Nat.le_refl _)).list
      have hcells : ∀ W : World, Like W w3 → ∀ j v, (listCells vs)[j]? = some v → W.cell? ((⟨b, 1, none⟩ : Addr).add j) = some v := by
        intro W hW j v hj
        have hadd : (⟨b, 1, none⟩ : Addr).add j = ⟨b, 1 + j, none⟩ := by unfold Addr.add; split <;> simp_all
        rw [hadd, World.cell?_of_block (w := w3) (by rw [hW.heap])]
        exact hL3.cell j v hj
      have HC : Hid _ := hcells
      have HSZ : Hid ((Tryz.prog.info? 147).map (·.size) = some (listCells vs).length) := by rw [Hid, Tryz.sizeListing, listCells_len hl20]
      have hbl3 : b < w3.heap.size := Nat.lt_of_lt_of_le hbl hb13.size
      have hlt3 := hd3.lt
      by_cases hz : removeE (belowE es x) (y :: r) = []
      · have R : Hid (removeE es (x :: y :: r) = withoutE es x) := by rw [Hid, Hrem.out, if_pos hz]
        have hcz : vs3.length = 0 := by rw [hlen3, hz]; rfl
        rw [hcz] at hcnt
        have hwl := listCells_len (withoutV_len (x := x) hl20)
        have HWL : Hid _ := withoutV_len (x := x) hl20
        clear hb3 hd3 he3 hbb3 hb13 hL3 hcells hL hg hcx HD2 HE2 HB1 HT HI hbl hlen3 hz hcz HRD
        go_upto_region 6 with fail
        go_wp2_with (first | (refine wpList_load_cells rfl 147 (.tmp 39) rfl ⟨b, 1, none⟩ rfl (listCells vs) _ ?_ Tryz.underlying147 rfl HSZ.out ?_; exact HC.out _ ⟨rfl, rfl, rfl, rfl⟩) | (go_at_call 96; refine (without_list vs x _ hforms hl20).mono ?_; rintro e w2 ⟨rfl, hb2⟩; generalize hLW : listCells (withoutV vs x) = LW at *; have HLW := Hid.mk' hLW; clear hLW))
        all_goals
          go_ret
          have hbe : Below w.heap.size w w2 := HB3.out.trans (hb2.mono HB3.out.size)
          have hbe' := hbe.alloc hbe.size
          refine ⟨w2.heap.size, withoutV vs x, hbe.size, rfl, ⟨HWL.out, ?_⟩, R.out ▸ rep_without ?_ hw x, ?_⟩
          · rw [heap_alloc_new, fold_dir rfl hwl rfl, HLW.out]
          · exact HE.out.later (hbe' _) (Nat.le_refl _)
          · exact hbe' _
      · have R : Hid (removeE es (x :: y :: r) = withE es x (.dir (removeE (belowE es x) (y :: r)))) := by rw [Hid, Hrem.out, if_neg hz]
        have hbn : belowE es x ≠ [] := fun e => hz (by rw [e]; exact removeE_nil _)
        have hth := hroom0 hbn
        have hroom : thereE vs x = false → vs.length < 20 := fun h => by rw [hth] at h; exact absurd h (by simp)
        have hcp : 0 < vs3.length := by rw [hlen3]; exact List.length_pos_iff.2 hz
        have hcpI : (0 : Int) < (vs3.length : Int) := by omega
        have hwl := listCells_len (withV_len (v := .iface 89 (.pointer (some ⟨b3, 0, none⟩))) hl20 hroom)
        have HWL : Hid _ := withV_len (v := .iface 89 (.pointer (some ⟨b3, 0, none⟩))) hl20 hroom
        clear hb3 hd3 he3 hbb3 hb13 hL3 hcells hL hg hcx HD2 HE2 HB1 HT HI hbl hlen3 hz hbn hroom0
        go_upto_region 5 with fail
        go_wp2_with (first | (refine wpList_load_cells rfl 147 (.tmp 29) rfl ⟨b, 1, none⟩ rfl (listCells vs) _ ?_ Tryz.underlying147 rfl HSZ.out ?_; exact HC.out _ ⟨rfl, rfl, rfl, rfl⟩) | (go_at_call 94; refine (with_any vs x 89 b3 _ hforms hl20 hroom).mono ?_; rintro e w2 ⟨rfl, hb2⟩; generalize hLW : listCells (withV vs x (.iface 89 (.pointer (some ⟨b3, 0, none⟩)))) = LW at *; have HLW := Hid.mk' hLW; clear hLW))
        all_goals
          go_ret
          have hbe : Below w.heap.size w w2 := HB3.out.trans (hb2.mono HB3.out.size)
          have hbe' := hbe.alloc hbe.size
          refine ⟨w2.heap.size, withV vs x (.iface 89 (.pointer (some ⟨b3, 0, none⟩))), hbe.size, rfl, ⟨HWL.out, ?_⟩, R.out ▸ rep_with ?_ ?_, ?_⟩
          · rw [heap_alloc_new, fold_dir rfl hwl rfl, HLW.out]
          · exact HE.out.later (hbe' _) (Nat.le_refl _)
          · exact HRD.out.later (hb2.alloc hb2.size _) (Nat.le_refl _)
          · exact hbe' _

end Go.Proofs.YtdcbgfhkfmohiaaGreatDoor

/- Maps: a listing as a key; finding, storing and deleting in a register. -/
namespace Go.Proofs.YtdcbgfhkfmohiaaGreatDoor
open Go.RowKit

/-- A node's value, or none; its block is there. -/
def NodeV (w : World) (v : Value) : Prop :=
  v = .nilIface ∨ (∃ b c, v = fileV b ∧ w.heap[b]? = some (.cells c 135 (0, 0))) ∨ (∃ b c, v = dirV b ∧ w.heap[b]? = some (.cells c 149 (0, 0)))

theorem info_some {P : Program} {t : TypeId} {c : Bool} (h : (P.info? t).map (·.comparable) = some c) : ∃ i, P.info? t = some i ∧ i.comparable = c := by
  cases hi : P.info? t with
  | none => rw [hi] at h; simp at h
  | some i => rw [hi] at h; exact ⟨i, rfl, by simpa using h⟩
theorem info_size {P : Program} {t : TypeId} {n : Nat} (h : (P.info? t).map (·.size) = some n) : ∃ i, P.info? t = some i ∧ i.size = n := by
  cases hi : P.info? t with
  | none => rw [hi] at h; simp at h
  | some i => rw [hi] at h; exact ⟨i, rfl, by simpa using h⟩

theorem ptr_eq {w : World} (d : Nat) {tp te : TypeId} {n : Nat} {b b' : Nat} {c c' : Array Value} (hp : Tryz.prog.underlying tp = some (.pointer te)) (hc : (Tryz.prog.info? tp).map (·.comparable) = some true) (hs : (Tryz.prog.info? te).map (·.size) = some (n + 1))
    (hb : w.heap[b]? = some (.cells c te (0, 0))) (hb' : w.heap[b']? = some (.cells c' te (0, 0))) :
    ∃ r : Bool, (Op.equalIn (d + 2) 99 (.iface tp (.pointer (some ⟨b, 0, none⟩))) (.iface tp (.pointer (some ⟨b', 0, none⟩)))).run Tryz.prog w = .ok r w ∧ (r = true ↔ b = b') := by
  obtain ⟨i, hi, hic⟩ := info_some hc
  obtain ⟨j, hj, hjs⟩ := info_size hs
  by_cases e : b = b'
  · subst e
    exact ⟨true, run_equalIn_iface_ptr_same w d _ Tryz.underlying99 hp hi hic hj, by simp⟩
  · exact ⟨false, run_equalIn_iface_ptr_other w d Tryz.underlying99 hp hi hic hj (by omega) (fun h => e (congrArg Addr.block h)) hb hb', by simp [e]⟩

theorem node_eq {w : World} (d : Nat) {v v' : Value} (h : NodeV w v) (h' : NodeV w v') : ∃ r : Bool, (Op.equalIn (d + 2) 99 v v').run Tryz.prog w = .ok r w ∧ (r = true ↔ v = v') := by
  have hu := Tryz.underlying99
  rcases h with rfl | ⟨b, c, rfl, hb⟩ | ⟨b, c, rfl, hb⟩ <;> rcases h' with rfl | ⟨b', c', rfl, hb'⟩ | ⟨b', c', rfl, hb'⟩
  · exact ⟨true, by rw [Op.equalIn]; simp only [Sem.run_bind, run_underlying hu, Result.andThen_ok]; rfl, by simp⟩
  · exact ⟨false, by rw [Op.equalIn]; simp only [Sem.run_bind, run_underlying hu, Result.andThen_ok]; rfl, by simp⟩
  · exact ⟨false, by rw [Op.equalIn]; simp only [Sem.run_bind, run_underlying hu, Result.andThen_ok]; rfl, by simp⟩
  · exact ⟨false, by rw [Op.equalIn]; simp only [Sem.run_bind, run_underlying hu, Result.andThen_ok]; rfl, by simp⟩
  · obtain ⟨r, h1, h2⟩ := ptr_eq (w := w) d (n := 1) (b := b) (b' := b') Tryz.underlying131 (by kernel_rfl) (by kernel_rfl) hb hb'
    exact ⟨r, h1, by rw [h2]; simp⟩
  · exact ⟨false, by rw [Op.equalIn]; simp only [Sem.run_bind, run_underlying hu, Result.andThen_ok]; rfl, by simp⟩
  · exact ⟨false, by rw [Op.equalIn]; simp only [Sem.run_bind, run_underlying hu, Result.andThen_ok]; rfl, by simp⟩
  · exact ⟨false, by rw [Op.equalIn]; simp only [Sem.run_bind, run_underlying hu, Result.andThen_ok]; rfl, by simp⟩
  · obtain ⟨r, h1, h2⟩ := ptr_eq (w := w) d (n := 41) (b := b) (b' := b') Tryz.underlying89 (by kernel_rfl) (by kernel_rfl) hb hb'
    exact ⟨r, h1, by rw [h2]; simp⟩

theorem run_part_one {P : Program} {w : World} {t : TypeId} {d : TypeDesc} {cs : Array Value} {off : Nat} {v : Value} (hu : P.underlying t = some d) (hd : (match d with | .struct _ | .array _ _ => true | _ => false) = false) (h : cs[off]? = some v) : (part t cs off).run P w = .ok v w := by
  have hagg : (isAgg t).run P w = .ok false w := by
    unfold isAgg; rw [Sem.run_bind, run_underlying hu w]; cases d <;> simp_all
  simp [part, Sem.run_bind, hagg, h]
theorem run_part_agg {P : Program} {w : World} {t : TypeId} {d : TypeDesc} {cs : Array Value} {off n : Nat} (hu : P.underlying t = some d) (hd : (match d with | .struct _ | .array _ _ => true | _ => false) = true) (hs : (P.info? t).map (·.size) = some n) : (part t cs off).run P w = .ok (.agg (cs.extract off (off + n))) w := by
  obtain ⟨j, hj, hjs⟩ := info_size hs
  have hagg : (isAgg t).run P w = .ok true w := by
    unfold isAgg; rw [Sem.run_bind, run_underlying hu w]; cases d <;> simp_all
  simp [part, Sem.run_bind, hagg, sizeOf, typeInfo, hj, hjs]

theorem fields_of {P : Program} {t : TypeId} {fs : Array Field} (h : P.underlying t = some (.struct fs)) : P.fieldsOf t = fs := by unfold Program.fieldsOf; rw [h]

theorem two_fields {P : Program} {w : World} {d : Nat} {xs ys : Array Value} {f g : Field} {a b c e : Value} {r1 r2 : Bool} (hf : f.name ≠ "_") (hg : g.name ≠ "_")
    (p1 : (part f.type xs f.offset).run P w = .ok a w) (p2 : (part f.type ys f.offset).run P w = .ok b w) (e1 : (Op.equalIn d f.type a b).run P w = .ok r1 w)
    (p3 : (part g.type xs g.offset).run P w = .ok c w) (p4 : (part g.type ys g.offset).run P w = .ok e w) (e2 : (Op.equalIn d g.type c e).run P w = .ok r2 w) : (Op.eqFields d xs ys [f, g]).run P w = .ok (r1 && r2) w := by
  rw [Op.eqFields, if_pos hf]
  simp only [Sem.run_bind, p1, p2, e1, Result.andThen_ok]
  cases r1
  · rfl
  · simp only [Bool.not_true, Bool.false_eq_true, if_false]
    rw [Op.eqFields, if_pos hg]
    simp only [Sem.run_bind, p3, p4, e2, Result.andThen_ok]
    cases r2 <;> rfl

theorem entry_eq {w : World} (d : Nat) {a a' : Str} {v v' : Value} (h : NodeV w v) (h' : NodeV w v') :
    ∃ r : Bool, (Op.equalIn (d + 3) 101 (.agg #[SV a, v]) (.agg #[SV a', v'])).run Tryz.prog w = .ok r w ∧ (r = true ↔ a = a' ∧ v = v') := by
  obtain ⟨r, h1, h2⟩ := node_eq d h h'
  have hf := fields_of Tryz.underlying101
  rw [run_equalIn_struct w (d + 2) 101 _ _ (by rw [hf]; exact Tryz.underlying101) (by kernel_rfl), hf]
  have p1 : (part 9 #[SV a, v] 0).run Tryz.prog w = .ok (SV a) w := run_part_one Tryz.underlying9 rfl rfl
  have p2 : (part 9 #[SV a', v'] 0).run Tryz.prog w = .ok (SV a') w := run_part_one Tryz.underlying9 rfl rfl
  have p3 : (part 99 #[SV a, v] 1).run Tryz.prog w = .ok v w := run_part_one Tryz.underlying99 rfl rfl
  have p4 : (part 99 #[SV a', v'] 1).run Tryz.prog w = .ok v' w := run_part_one Tryz.underlying99 rfl rfl
  have hs : (Op.equalIn (d + 2) 9 (SV a) (SV a')).run Tryz.prog w = .ok (a == a') w := by
    rw [run_equalIn_string w (d + 1) _ _ _ Tryz.underlying9]; simp [ByteArray.toList_eq]
  exact ⟨(a == a') && r, two_fields (by simp) (by simp) p1 p2 hs p3 p4 h1, by simp [h2]⟩

/-- The entry at a place, an empty one behind the last. -/
def entAt (vs : List (Str × Value)) (i : Nat) : Str × Value := vs[i]?.getD ([], .nilIface)

theorem padE_get (n i : Nat) (h : i < n) : (padE n)[i * 2]? = some (SV []) ∧ (padE n)[i * 2 + 1]? = some .nilIface := by
  induction n generalizing i with
  | zero => omega
  | succ n ih =>
    rw [padE_succ]
    cases i with
    | zero => exact ⟨rfl, rfl⟩
    | succ i =>
      have := ih i (by omega)
      rw [show (i + 1) * 2 = i * 2 + 2 from by omega, show i * 2 + 2 + 1 = (i * 2 + 1) + 2 from by omega]
      simpa using this
theorem listCells_ent {vs : List (Str × Value)} (hl : vs.length ≤ 20) {i : Nat} (hi : i < 20) : (listCells vs)[i * 2 + 1]? = some (SV (entAt vs i).1) ∧ (listCells vs)[i * 2 + 2]? = some (entAt vs i).2 := by
  by_cases h : i < vs.length
  · have := listCells_name h
    unfold entAt; rw [List.getElem?_eq_getElem h]; exact this
  · have hf : (flatE vs).length = vs.length * 2 := flatE_len vs
    have hp := padE_get (20 - vs.length) (i - vs.length) (by omega)
    rw [listCells_eq, List.getElem?_cons_succ, show i * 2 + 2 = (i * 2 + 1) + 1 from rfl, List.getElem?_cons_succ, List.getElem?_append_right (by omega), List.getElem?_append_right (by omega), hf,
      show i * 2 - vs.length * 2 = (i - vs.length) * 2 from by omega, show i * 2 + 1 - vs.length * 2 = (i - vs.length) * 2 + 1 from by omega]
    have e0 : vs[i]? = none := List.getElem?_eq_none (by omega)
    unfold entAt; rw [e0]; exact hp

def Nodes (w : World) (vs : List (Str × Value)) : Prop := vs.length ≤ 20 ∧ ∀ e ∈ vs, NodeV w e.2
theorem Nodes.ent {w : World} {vs : List (Str × Value)} (h : Nodes w vs) (i : Nat) : NodeV w (entAt vs i).2 := by
  unfold entAt
  cases hx : vs[i]? with
  | none => exact .inl rfl
  | some e => exact h.2 e (List.mem_of_getElem? hx)

theorem part_ent {w : World} {vs : List (Str × Value)} (hl : vs.length ≤ 20) {i : Nat} (hi : i < 20) (cs : Array Value) (hcs : cs = (listCells vs).toArray.extract 1 (1 + 40)) : (part 101 cs (i * 2)).run Tryz.prog w = .ok (.agg #[SV (entAt vs i).1, (entAt vs i).2]) w := by
  rw [run_part_agg (n := 2) Tryz.underlying101 rfl (by kernel_rfl)]
  congr 2
  have hlen := listCells_len hl
  obtain ⟨h1, h2⟩ := listCells_ent hl hi
  subst hcs
  apply Array.ext'
  apply List.ext_getElem?
  intro j
  simp only [Array.toList_extract, List.extract_eq_take_drop, List.drop_take, List.getElem?_take, List.getElem?_drop]
  match j with
  | 0 => rw [if_pos (by omega), if_pos (by omega), show 1 + (i * 2 + 0) = i * 2 + 1 from by omega, h1]; rfl
  | 1 => rw [if_pos (by omega), if_pos (by omega), show 1 + (i * 2 + 1) = i * 2 + 2 from by omega, h2]; rfl
  | j + 2 => rw [if_neg (by omega)]; rfl

theorem items_eq {w : World} {vs vs' : List (Str × Value)} (h : Nodes w vs) (h' : Nodes w vs') (d : Nat) (is : List Nat) (his : ∀ i ∈ is, i < 20) :
    ∃ r : Bool, (Op.eqItems (d + 3) 101 2 ((listCells vs).toArray.extract 1 (1 + 40)) ((listCells vs').toArray.extract 1 (1 + 40)) is).run Tryz.prog w = .ok r w ∧ (r = true ↔ ∀ i ∈ is, entAt vs i = entAt vs' i) := by
  induction is with
  | nil => exact ⟨true, by simp [Op.eqItems], by simp⟩
  | cons i is ih =>
    obtain ⟨r, h1, h2⟩ := ih (fun j hj => his j (by simp [hj]))
    have hi := his i (by simp)
    have p1 := part_ent (w := w) h.1 hi _ rfl
    have p2 := part_ent (w := w) h'.1 hi _ rfl
    obtain ⟨q, e1, e2⟩ := entry_eq (w := w) d (a := (entAt vs i).1) (a' := (entAt vs' i).1) (h.ent i) (h'.ent i)
    cases q
    · refine ⟨false, ?_, ?_⟩
      · simp only [Op.eqItems, Sem.run_bind, p1, p2, e1, Result.andThen_ok]; simp
      · simp only [Bool.false_eq_true, false_iff]
        intro hall
        have := hall i (by simp)
        exact absurd (e2.2 ⟨by rw [this], by rw [this]⟩) (by simp)
    · refine ⟨r, ?_, ?_⟩
      · simp only [Op.eqItems, Sem.run_bind, p1, p2, e1, Result.andThen_ok]; simpa using h1
      · rw [h2]
        have := e2.1 rfl
        constructor
        · intro hall j hj
          simp at hj; rcases hj with rfl | hj
          · exact Prod.ext this.1 this.2
          · exact hall j hj
        · intro hall j hj; exact hall j (by simp [hj])

theorem ents_same {vs vs' : List (Str × Value)} (hl : vs.length ≤ 20) (hl' : vs'.length ≤ 20) : (vs.length = vs'.length ∧ ∀ i ∈ List.range 20, entAt vs i = entAt vs' i) ↔ vs = vs' := by
  constructor
  · rintro ⟨h1, h2⟩
    apply List.ext_getElem?
    intro i
    by_cases hi : i < vs.length
    · have := h2 i (by simp; omega)
      unfold entAt at this
      rw [List.getElem?_eq_getElem hi, List.getElem?_eq_getElem (by omega)] at this ⊢
      simpa using this
    · rw [List.getElem?_eq_none (by omega), List.getElem?_eq_none (by omega)]
  · rintro rfl; exact ⟨rfl, fun _ _ => rfl⟩

/-- Two listings as keys. -/
theorem listing_eq {w : World} {vs vs' : List (Str × Value)} (h : Nodes w vs) (h' : Nodes w vs') :
    ∃ r : Bool, (Op.equal 147 (.agg (listCells vs).toArray) (.agg (listCells vs').toArray)).run Tryz.prog w = .ok r w ∧ (r = true ↔ vs = vs') := by
  obtain ⟨r, h1, h2⟩ := items_eq h h' 9995 (List.range 20) (by simp)
  have hf := fields_of Tryz.underlying147
  obtain ⟨j, hj, hjs⟩ := info_size (P := Tryz.prog) (t := 101) (n := 2) (by kernel_rfl)
  have hce : Tryz.prog.cellsOf 101 = 2 := by kernel_rfl
  unfold Op.equal Op.maxDepth
  rw [run_equalIn_struct w 9999 147 _ _ (by rw [hf]; exact Tryz.underlying147) (by kernel_rfl), hf]
  have p1 : (part 3 (listCells vs).toArray 0).run Tryz.prog w = .ok (.int .i64 vs.length) w := run_part_one Tryz.underlying3 rfl rfl
  have p2 : (part 3 (listCells vs').toArray 0).run Tryz.prog w = .ok (.int .i64 vs'.length) w := run_part_one Tryz.underlying3 rfl rfl
  have p3 : (part 145 (listCells vs).toArray 1).run Tryz.prog w = .ok (.agg ((listCells vs).toArray.extract 1 (1 + 40))) w := run_part_agg Tryz.underlying145 rfl (by kernel_rfl)
  have p4 : (part 145 (listCells vs').toArray 1).run Tryz.prog w = .ok (.agg ((listCells vs').toArray.extract 1 (1 + 40))) w := run_part_agg Tryz.underlying145 rfl (by kernel_rfl)
  have hn : (Op.equalIn 9999 3 (.int .i64 vs.length) (.int .i64 vs'.length)).run Tryz.prog w = .ok ((vs.length : Int) == (vs'.length : Int)) w := run_equalIn_int w 9998 _ _ _ _ _ Tryz.underlying3
  have ha := run_equalIn_array (P := Tryz.prog) w 9998 ((listCells vs).toArray.extract 1 (1 + 40)) ((listCells vs').toArray.extract 1 (1 + 40)) Tryz.underlying145 hj
  rw [hce, h1] at ha
  refine ⟨((vs.length : Int) == (vs'.length : Int)) && r, two_fields (by simp) (by simp) p1 p2 hn p3 p4 ha, ?_⟩
  rw [← ents_same h.1 h'.1, Bool.and_eq_true, h2, beq_iff_eq]
  simp only [Int.natCast_inj]

end Go.Proofs.YtdcbgfhkfmohiaaGreatDoor

/- Maps: finding, storing, deleting; the steps of a walk. -/
namespace Go.Proofs.YtdcbgfhkfmohiaaGreatDoor
open Go.RowKit

theorem node_check {w : World} (n : Nat) (em : Bool) {v : Value} (h : NodeV w v) : (Instr.checkKey em (n + 2) 99 v).run Tryz.prog w = .ok () w := by
  have hu := Tryz.underlying99
  rcases h with rfl | ⟨b, c, rfl, hb⟩ | ⟨b, c, rfl, hb⟩
  · simp [Instr.checkKey, run_underlying hu]
  · obtain ⟨i, hi, hic⟩ := info_some (P := Tryz.prog) (t := 131) (c := true) (by kernel_rfl)
    simp [Instr.checkKey, run_underlying hu, run_underlying Tryz.underlying131, typeInfo, hi, hic]
  · obtain ⟨i, hi, hic⟩ := info_some (P := Tryz.prog) (t := 89) (c := true) (by kernel_rfl)
    simp [Instr.checkKey, run_underlying hu, run_underlying Tryz.underlying89, typeInfo, hi, hic]

theorem entry_check {w : World} (n : Nat) (em : Bool) {a : Str} {v : Value} (h : NodeV w v) : (Instr.checkKey em (n + 3) 101 (.agg #[SV a, v])).run Tryz.prog w = .ok () w := by
  have p1 : (part 9 #[SV a, v] 0).run Tryz.prog w = .ok (SV a) w := run_part_one Tryz.underlying9 rfl rfl
  have p3 : (part 99 #[SV a, v] 1).run Tryz.prog w = .ok v w := run_part_one Tryz.underlying99 rfl rfl
  have c1 : (Instr.checkKey em (n + 2) 9 (SV a)).run Tryz.prog w = .ok () w := by simp [Instr.checkKey, run_underlying Tryz.underlying9]
  have c2 := node_check (w := w) n em h
  rw [Instr.checkKey]
  simp only [Sem.run_bind, run_underlying Tryz.underlying101, Result.andThen_ok]
  rw [← Array.forIn_toList]
  simp [p1, p3, c1, c2]

theorem array_check {w : World} {vs : List (Str × Value)} (h : Nodes w vs) (n : Nat) (em : Bool) : (Instr.checkKey em (n + 4) 145 (.agg ((listCells vs).toArray.extract 1 (1 + 40)))).run Tryz.prog w = .ok () w := by
  obtain ⟨j, hj, hjs⟩ := info_size (P := Tryz.prog) (t := 101) (n := 2) (by kernel_rfl)
  have hso : (sizeOf 101).run Tryz.prog w = .ok 2 w := by simp [sizeOf, typeInfo, hj, hjs]
  rw [Instr.checkKey]
  simp only [Sem.run_bind, run_underlying Tryz.underlying145, Result.andThen_ok]
  simp only [Std.Legacy.Range.forIn_eq_forIn_range', Std.Legacy.Range.size, Nat.sub_zero, Nat.add_one_sub_one, Nat.div_one]
  have each : ∀ i ∈ List.range' 0 20, i < 20 := by intro i hi; simp at hi; omega
  generalize List.range' 0 20 = is at each
  induction is with
  | nil => simp
  | cons i is ih =>
    have p1 := part_ent (w := w) h.1 (each i (by simp)) _ rfl
    have p2 := entry_check (w := w) n em (a := (entAt vs i).1) (h.ent i)
    simp only [List.forIn_cons, Sem.run_bind, hso, Result.andThen_ok, p1, p2, Sem.run_pure]
    exact ih (fun y hy => each y (by simp [hy]))

theorem listing_check {w : World} {vs : List (Str × Value)} (h : Nodes w vs) (em : Bool) : (Instr.checkKey em 10000 147 (.agg (listCells vs).toArray)).run Tryz.prog w = .ok () w := by
  have p1 : (part 3 (listCells vs).toArray 0).run Tryz.prog w = .ok (.int .i64 vs.length) w := run_part_one Tryz.underlying3 rfl rfl
  have p3 : (part 145 (listCells vs).toArray 1).run Tryz.prog w = .ok (.agg ((listCells vs).toArray.extract 1 (1 + 40))) w := run_part_agg Tryz.underlying145 rfl (by kernel_rfl)
  have c1 : (Instr.checkKey em 9999 3 (.int .i64 vs.length)).run Tryz.prog w = .ok () w := by
    rw [show (9999 : Nat) = 9998 + 1 from rfl, Instr.checkKey]; simp [run_underlying Tryz.underlying3]
  have c2 := array_check h 9995 em
  rw [show (10000 : Nat) = 9999 + 1 from rfl, Instr.checkKey]
  simp only [Sem.run_bind, run_underlying Tryz.underlying147, Result.andThen_ok]
  rw [← Array.forIn_toList]
  simp only [List.forIn_cons, List.forIn_nil, Sem.run_bind]
  simp only [ne_eq, String.reduceEq, not_false_eq_true, if_true, Sem.run_bind, p1, p3, c1, Result.andThen_ok, Sem.run_pure]
  simp only [show (9995 + 4 : Nat) = 9999 from rfl] at c2
  simp only [c2, Result.andThen_ok]
  rfl

/-- The entries of a map, in their order, are those of a list. -/
def Holds {α : Type} (es : Array MapEntry) (K V : α → Value) (L : List α) : Prop := es.toList.map (fun e => (e.key, e.val)) = L.map fun x => (K x, V x)

theorem find_asking {α : Type} {P : Program} {w : World} {kt : TypeId} {K V : α → Value} {key : Value} {x0 : α} : ∀ (L : List α) (es : List MapEntry) (i : Nat), es.map (fun e => (e.key, e.val)) = L.map (fun x => (K x, V x)) →
    (∀ x ∈ L, ∃ r : Bool, (Op.equal kt key (K x)).run P w = .ok r w ∧ (r = true ↔ x0 = x)) →
    (x0 ∉ L ∧ (Instr.findAsking kt key es i).run P w = .ok none w) ∨ (∃ j, L[j]? = some x0 ∧ (Instr.findAsking kt key es i).run P w = .ok (some (i + j, V x0)) w)
  | [], es, i, he, _ => by
    cases es with
    | nil => exact .inl ⟨by simp, by simp [Instr.findAsking]⟩
    | cons => simp at he
  | x :: L, es, i, he, hq => by
    cases es with
    | nil => simp at he
    | cons e es =>
      simp only [List.map_cons, List.cons.injEq, Prod.mk.injEq] at he
      obtain ⟨r, hr, hiff⟩ := hq x (by simp)
      rw [← he.1.1] at hr
      cases r
      · have hne : x0 ≠ x := fun h => absurd (hiff.2 h) (by simp)
        rcases find_asking L es (i + 1) he.2 (fun y hy => hq y (by simp [hy])) with ⟨h1, h2⟩ | ⟨j, h1, h2⟩
        · exact .inl ⟨by simp [hne, h1], by simp [Instr.findAsking, hr, h2]⟩
        · exact .inr ⟨j + 1, by simpa using h1, by simp [Instr.findAsking, hr, h2, Nat.add_assoc, Nat.add_comm 1 j]⟩
      · have e0 := hiff.1 rfl
        subst e0
        exact .inr ⟨0, rfl, by simp [Instr.findAsking, hr, he.1.2]⟩

theorem find_now {α : Type} {d : TypeDesc} {K V : α → Value} {key : Value} {x0 : α} : ∀ (L : List α) (es : List MapEntry) (i : Nat), es.map (fun e => (e.key, e.val)) = L.map (fun x => (K x, V x)) →
    (∀ x ∈ L, ∃ r : Bool, Instr.sameNow d key (K x) = some r ∧ (r = true ↔ x0 = x)) →
    (x0 ∉ L ∧ Instr.findNow d key es i = some none) ∨ (∃ j, L[j]? = some x0 ∧ Instr.findNow d key es i = some (some (i + j, V x0)))
  | [], es, i, he, _ => by
    cases es with
    | nil => exact .inl ⟨by simp, by simp [Instr.findNow]⟩
    | cons => simp at he
  | x :: L, es, i, he, hq => by
    cases es with
    | nil => simp at he
    | cons e es =>
      simp only [List.map_cons, List.cons.injEq, Prod.mk.injEq] at he
      obtain ⟨r, hr, hiff⟩ := hq x (by simp)
      rw [← he.1.1] at hr
      cases r
      · have hne : x0 ≠ x := fun h => absurd (hiff.2 h) (by simp)
        rcases find_now L es (i + 1) he.2 (fun y hy => hq y (by simp [hy])) with ⟨h1, h2⟩ | ⟨j, h1, h2⟩
        · exact .inl ⟨by simp [hne, h1], by simp [Instr.findNow, hr, h2]⟩
        · exact .inr ⟨j + 1, by simpa using h1, by simp [Instr.findNow, hr, h2, Nat.add_assoc, Nat.add_comm 1 j]⟩
      · have e0 := hiff.1 rfl
        subst e0
        exact .inr ⟨0, rfl, by simp [Instr.findNow, hr, he.1.2]⟩

/-- What finding a key in a map gives, in this world. -/
def Finds {α : Type} (w : World) (kt : TypeId) (key : Value) (es : Array MapEntry) (V : α → Value) (L : List α) (x0 : α) : Prop :=
  (∀ em, (Instr.checkKey em 10000 kt key).run Tryz.prog w = .ok () w) ∧
  ((x0 ∉ L ∧ (Instr.findKey kt key es.toList).run Tryz.prog w = .ok none w) ∨ (∃ j, L[j]? = some x0 ∧ (Instr.findKey kt key es.toList).run Tryz.prog w = .ok (some (j, V x0)) w))

theorem finds_listing {α : Type} {w : World} {es : Array MapEntry} {V : α → Value} {L : List α} {g : α → List (Str × Value)} {x0 : α} (hh : Holds es (fun x => .agg (listCells (g x)).toArray) V L) (h0 : Nodes w (g x0)) (hL : ∀ x ∈ L, Nodes w (g x)) (hinj : ∀ x ∈ L, g x0 = g x → x0 = x) :
    Finds w 147 (.agg (listCells (g x0)).toArray) es V L x0 := by
  refine ⟨fun em => listing_check h0 em, ?_⟩
  have hfk := run_findKey_eq (P := Tryz.prog) (w := w) (k := 147) (by rw [Tryz.underlying147]) (.agg (listCells (g x0)).toArray) es.toList
  rw [hfk]
  have := find_asking (P := Tryz.prog) (w := w) (kt := 147) (V := V) (key := .agg (listCells (g x0)).toArray) (x0 := x0) L es.toList 0 hh (fun x hx => by
    obtain ⟨r, h1, h2⟩ := listing_eq h0 (hL x hx)
    exact ⟨r, h1, by rw [h2]; exact ⟨hinj x hx, fun h => by rw [h]⟩⟩)
  simpa using this

theorem sv_beq (a b : Str) : ((⟨a.toArray⟩ : ByteArray) == ⟨b.toArray⟩) = (a == b) := by
  rw [beq_toListBytes, ByteArray.toList_eq, ByteArray.toList_eq]

theorem finds_string {w : World} {es : Array MapEntry} {V : Str → Value} {L : List Str} {x0 : Str} (hh : Holds es (fun x => SV x) V L) : Finds w 9 (SV x0) es V L x0 := by
  refine ⟨fun em => by rw [show (10000 : Nat) = 9999 + 1 from rfl, Instr.checkKey]; simp [run_underlying Tryz.underlying9], ?_⟩
  have := find_now (d := .string) (V := V) (key := SV x0) (x0 := x0) L es.toList 0 hh (fun x _ => ⟨x0 == x, by simp only [Instr.sameNow, sv_beq], by simp⟩)
  rcases this with ⟨h1, h2⟩ | ⟨j, h1, h2⟩
  · exact .inl ⟨h1, MapKept.run_findKey Tryz.underlying9 h2⟩
  · exact .inr ⟨j, h1, by rw [MapKept.run_findKey Tryz.underlying9 h2]; simp⟩

theorem finds_int {α : Type} {w : World} {es : Array MapEntry} {V : α → Value} {L : List α} {g : α → Int} {x0 : α} (hh : Holds es (fun x => .int .i64 (g x)) V L) (hinj : ∀ x ∈ L, g x0 = g x → x0 = x) : Finds w 3 (.int .i64 (g x0)) es V L x0 := by
  refine ⟨fun em => by rw [show (10000 : Nat) = 9999 + 1 from rfl, Instr.checkKey]; simp [run_underlying Tryz.underlying3], ?_⟩
  have := find_now (d := .int .i64) (V := V) (key := .int .i64 (g x0)) (x0 := x0) L es.toList 0 hh (fun x hx => ⟨g x0 == g x, by simp [Instr.sameNow], by rw [beq_iff_eq]; exact ⟨hinj x hx, fun h => by rw [h]⟩⟩)
  rcases this with ⟨h1, h2⟩ | ⟨j, h1, h2⟩
  · exact .inl ⟨h1, MapKept.run_findKey Tryz.underlying3 h2⟩
  · exact .inr ⟨j, h1, by rw [MapKept.run_findKey Tryz.underlying3 h2]; simp⟩

/-- One block has turned, and nothing else. -/
structure Set1 (w w' : World) (r : Nat) (o : Obj) : Prop where
  os : w'.os = w.os
  tape : w'.tape = w.tape
  output : w'.output = w.output
  size : w'.heap.size = w.heap.size
  here : w'.heap[r]? = some o
  other : ∀ k, k ≠ r → w'.heap[k]? = w.heap[k]?

theorem set1_of {w : World} {r : Nat} {o o' : Obj} (h : w.heap[r]? = some o) : Set1 w { w with heap := w.heap.setIfInBounds r o' } r o' := by
  have hr := (Array.getElem?_eq_some_iff.1 h).1
  exact ⟨rfl, rfl, rfl, by simp, by simp [hr], fun k hk => by simp [Ne.symm hk]⟩

theorem map_erase {β γ : Type} (f : β → γ) (l : List β) (j : Nat) : (l.eraseIdx j).map f = (l.map f).eraseIdx j := by
  induction l generalizing j with
  | nil => rfl
  | cons a l ih => cases j with
    | zero => rfl
    | succ j => simp [ih]

section
variable {α : Type} {w : World} {t kt et : TypeId} {key : Value} {es : Array MapEntry} {V : α → Value} {L : List α} {x0 : α} {r clock : Nat}

theorem run_lookup_in (hu : Tryz.prog.underlying t = some (.map kt et)) (hb : w.heap[r]? = some (.map es clock)) (hf : Finds w kt key es V L x0) (hin : x0 ∈ L) : (Instr.lookup t (.map (some r)) key false).run Tryz.prog w = .ok (V x0) w := by
  rcases hf.2 with ⟨h1, _⟩ | ⟨j, _, h2⟩
  · exact absurd hin h1
  · simp [Instr.lookup, run_underlying hu, MapKept.run_getObj_map hb, hf.1, h2, Result.andThen]
theorem run_lookup_out (hu : Tryz.prog.underlying t = some (.map kt et)) (hb : w.heap[r]? = some (.map es clock)) (hf : Finds w kt key es V L x0) (hout : x0 ∉ L) {z : Value} (hz : (zeroValue et).run Tryz.prog w = .ok z w) : (Instr.lookup t (.map (some r)) key false).run Tryz.prog w = .ok z w := by
  rcases hf.2 with ⟨_, h2⟩ | ⟨j, h1, _⟩
  · simp [Instr.lookup, run_underlying hu, MapKept.run_getObj_map hb, hf.1, h2, Result.andThen, hz]
  · exact absurd (List.mem_of_getElem? h1) hout

theorem run_mapUpdate_new (hu : Tryz.prog.underlying t = some (.map kt et)) (hb : w.heap[r]? = some (.map es clock)) (hf : Finds w kt key es V L x0) (hout : x0 ∉ L) (v : Value) :
    ∃ w', (Instr.mapUpdate t (.map (some r)) key v).run Tryz.prog w = .ok () w' ∧ Set1 w w' r (.map (es.push { key := key, val := v, born := clock }) (clock + 1)) := by
  rcases hf.2 with ⟨_, h2⟩ | ⟨j, h1, _⟩
  · exact ⟨_, by simp [Instr.mapUpdate, run_underlying hu, MapKept.run_getObj_map hb, hf.1, h2, MapKept.run_setObj_map _ hb, Result.andThen], set1_of hb⟩
  · exact absurd (List.mem_of_getElem? h1) hout

theorem run_delete_in (hu : Tryz.prog.underlying t = some (.map kt et)) (hb : w.heap[r]? = some (.map es clock)) (hf : Finds w kt key es V L x0) (hin : x0 ∈ L) (ty : TypeId) :
    ∃ w' j, L[j]? = some x0 ∧ (Builtin.delete_ #[t, kt] ty #[.map (some r), key]).run Tryz.prog w = .ok (.tuple #[]) w' ∧ Set1 w w' r (.map (es.eraseIdxIfInBounds j) clock) := by
  rcases hf.2 with ⟨h1, _⟩ | ⟨j, h1, h2⟩
  · exact absurd hin h1
  · exact ⟨_, j, h1, by simp [Builtin.delete_, run_underlying hu, MapKept.run_getObj_map hb, hf.1, h2, MapKept.run_setObj_map _ hb, Result.andThen], set1_of hb⟩

theorem Holds.push {K : α → Value} (h : Holds es K V L) {x : α} (hk : key = K x) {b : Nat} : Holds (es.push { key := key, val := V x, born := b }) K V (L ++ [x]) := by
  unfold Holds at *; simp [h, hk]
theorem Holds.erase {K : α → Value} (h : Holds es K V L) (j : Nat) : Holds (es.eraseIdxIfInBounds j) K V (L.eraseIdx j) := by
  unfold Holds at *
  have hlen : es.size = L.length := by have := congrArg List.length h; simpa using this
  unfold Array.eraseIdxIfInBounds
  split
  · rename_i hj
    rw [Array.toList_eraseIdx, map_erase, map_erase, h]
  · rename_i hj
    rw [List.eraseIdx_of_length_le (by omega)]; exact h
theorem Holds.len {K : α → Value} (h : Holds es K V L) : es.size = L.length := by have := congrArg List.length h; simpa using this
end

end Go.Proofs.YtdcbgfhkfmohiaaGreatDoor
