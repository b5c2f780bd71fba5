/- The document's Answer. -/
import Derived.Test.YtdcbgfhkfmohiaaGreatDoorAs25
import Derived.Shelf.Strings.OnBuilder
import Derived.Shelf.Strings.Search3
import Derived.Shelf.Slices.Turned
import Derived.Ground.Names2Prog
import Derived.Shelf.Slices.Clone
import Derived.Test.YtdcbgfhkfmohiaaGreatDoorProg
namespace Go.Proofs.YtdcbgfhkfmohiaaGreatDoor
open Go.RowKit

theorem answerL_exists {l : List Fl} {xs : List Str} {p : Str} (h : xs.headD [] = kExists) (hp : xs.getD 1 [] = p) : answerL l xs = kindL l p := by
  unfold answerL; rw [h, hp, if_pos (by rfl)]
theorem answerL_list {l : List Fl} {xs : List Str} {p : Str} (h : xs.headD [] = kList) (hp : xs.getD 1 [] = p) : answerL l xs = listL l p := by
  unfold answerL; rw [h, hp, if_neg (by decide), if_pos (by rfl)]
theorem answerL_read {l : List Fl} {xs : List Str} {p : Str} (h : xs.headD [] = kRead) (hp : xs.getD 1 [] = p) : answerL l xs = readL l p := by
  unfold answerL; rw [h, hp, if_neg (by decide), if_neg (by decide), if_pos (by rfl)]
theorem answerL_glob {l : List Fl} {xs : List Str} {p : Str} (h : xs.headD [] = kGlob) (hp : xs.getD 1 [] = p) : answerL l xs = globL l p := by
  unfold answerL; rw [h, hp, if_neg (by decide), if_neg (by decide), if_neg (by decide), if_pos (by rfl)]
theorem answerL_first {l : List Fl} {xs : List Str} {p : Str} (h : xs.headD [] = kFirst) (hp : xs.getD 1 [] = p) : answerL l xs = firstL l p (xs.drop 2) := by
  unfold answerL; rw [h, hp, if_neg (by decide), if_neg (by decide), if_neg (by decide), if_neg (by decide), if_pos (by rfl)]
theorem answerL_none {l : List Fl} {xs : List Str} (h1 : (xs.headD [] == kExists) = false) (h2 : (xs.headD [] == kList) = false) (h3 : (xs.headD [] == kRead) = false) (h4 : (xs.headD [] == kGlob) = false) (h5 : (xs.headD [] == kFirst) = false) : answerL l xs = noT := by
  unfold answerL; rw [h1, h2, h3, h4, h5]; rfl

theorem glob_take {l : List Fl} {p : Str} {k : Nat} (hk : k < l.length) : globL (l.take (k + 1)) p = globL (l.take k) p ++ (if fitsL p l[k].1 then l[k].1 ++ [10] else []) := by
  unfold globL; rw [List.take_succ_eq_append_getElem hk, List.flatMap_append]; simp
theorem glob_len {l : List Fl} {p : Str} (hs : ∀ f ∈ l, f.1.length ≤ 100) (k : Nat) : (globL (l.take k) p).length ≤ 101 * k := by
  induction k with
  | zero => simp [globL]
  | succ k ih =>
    by_cases hk : k < l.length
    · rw [glob_take hk, List.length_append]
      have := hs l[k] (List.getElem_mem hk)
      split
      · rw [List.length_append, List.length_singleton]; omega
      · simp; omega
    · rw [List.take_of_length_le (by omega)] at *; omega
theorem first_hit {l : List Fl} {x : Str} {xs : List Str} {k : Nat} (hk : k < xs.length) (h : 0 ≤ getI l (inDir xs[k] x)) : firstL l x (xs.drop k) = inDir xs[k] x := by
  rw [List.drop_eq_getElem_cons hk, firstL, if_pos h]
theorem first_miss {l : List Fl} {x : Str} {xs : List Str} {k : Nat} (hk : k < xs.length) (h : ¬ 0 ≤ getI l (inDir xs[k] x)) : firstL l x (xs.drop k) = firstL l x (xs.drop (k + 1)) := by
  rw [List.drop_eq_getElem_cons hk, firstL, if_neg h]

theorem inL_small {l : List Fl} {d : Str} (h : Small l) : Small (inL l d) := by
  refine ⟨?_, ?_⟩
  · have := flatMap_len (l := l) (f := fun f => if (belowL f.1 d).isEmpty then [] else [(belowL f.1 d, f.2)]) (fun x => by split <;> simp) l.length
    rw [List.take_length] at this
    have h1 := h.1
    unfold inL; omega
  · intro f hf
    unfold inL at hf
    rw [List.mem_flatMap] at hf
    obtain ⟨g, hg, hf⟩ := hf
    split at hf
    · simp at hf
    · simp at hf; subst hf
      have h1 := h.2 g hg
      have h2 := belowL_len g.1 d
      exact ⟨by simp only; omega, h1.2⟩

/-- What the walk of Answer stands before, behind its first three lines. -/
structure AnsAt (w : World) (v : Value) (g cap : Nat) (l : List Fl) (xs : List Str) : Prop where
  files : FilesAt w v l
  small : Tiny l
  cells : ∀ k (h : k < xs.length), w.cell? ⟨g, k, none⟩ = some (SV xs[k])
  lt : g < w.heap.size
  cap : xs.length ≤ cap ∧ cap ≤ maxLen
  two : 2 ≤ xs.length
  few : xs.length ≤ 1000
  short : ∀ x ∈ xs, x.length ≤ 60
theorem AnsAt.below {w W : World} {v : Value} {g cap : Nat} {l : List Fl} {xs : List Str} (h : AnsAt w v g cap l xs) (hb : Below w.heap.size w W) : AnsAt W v g cap l xs :=
  ⟨files_below h.files hb (Nat.le_refl _), h.small, fun k hk => (hb.cell (p := ⟨g, k, none⟩) h.lt).trans (h.cells k hk), Nat.lt_of_lt_of_le h.lt hb.size, h.cap, h.two, h.few, h.short⟩

set_option maxHeartbeats 4000000 in
set_option maxRecDepth 50000 in
theorem answer_exists (l : List Fl) (v : Value) (g cap : Nat) (xs : List Str) (w : World) (hA : AnsAt w v g cap l xs) (h0 : xs.headD [] = kExists) :
    Calls Tryz.prog 140 #[v, .slice (some ⟨g, 0, none⟩) xs.length cap] w fun e w' => e = .returned (SV (answerL l xs)) ∧ Below w.heap.size w w' := by
  obtain ⟨x0, x1, r, rfl⟩ : ∃ x0 x1 r, xs = x0 :: x1 :: r := by
    match xs, hA.two with
    | x0 :: x1 :: r, _ => exact ⟨x0, x1, r, rfl⟩
  obtain rfl : x0 = kExists := h0
  have c1 : w.cell? ⟨g, 1, none⟩ = some (SV x1) := hA.cells 1 (by simp)
  have hl1 := hA.short x1 (by simp)
  have HR : Hid (answerL l (kExists :: x1 :: r) = _) := answerL_exists (l := l) (xs := kExists :: x1 :: r) (p := x1) rfl rfl
  have HA : Hid _ := hA
  have hfew := hA.few
  have hcap := hA.cap
  unfold maxLen at hcap
  simp only [List.length_cons] at hfew hcap ⊢
  clear hA
  go_enter Tryz.func140, Tryz.ntmps140
  go_wp2_with fail
  refine (get_any l v x1 _ HA.out.files).mono ?_
  rintro e w ⟨rfl, rfl⟩
  go_wp2_with fail
  refine (isDir_any l v x1 _ HA.out.files HA.out.small.small (by unfold maxLen; omega)).mono ?_
  rintro e w2 ⟨rfl, hb2⟩
  have c0 : w2.cell? ⟨g, 0, none⟩ = some (SV [101, 120, 105, 115, 116, 115]) := (HA.out.below hb2).cells 0 (by simp)
  have HB : Hid _ := hb2
  clear c1 hb2 HA
  by_cases hf : 0 ≤ getI l x1
  · have R : Hid (answerL l (kExists :: x1 :: r) = fileT) := by rw [Hid, HR.out, kindL, if_pos hf]
    generalize getI l x1 = gi at *
    go_wp2
    go_ret
    exact ⟨by rw [R.out]; rfl, HB.out⟩
  · cases hd : isDirL l x1
    · have R : Hid (answerL l (kExists :: x1 :: r) = noT) := by rw [Hid, HR.out, kindL, if_neg hf, hd]; rfl
      generalize getI l x1 = gi at *
      go_wp2
      go_ret
      exact ⟨by rw [R.out]; rfl, HB.out⟩
    · have R : Hid (answerL l (kExists :: x1 :: r) = dirT) := by rw [Hid, HR.out, kindL, if_neg hf, hd]; rfl
      generalize getI l x1 = gi at *
      go_wp2
      go_ret
      exact ⟨by rw [R.out]; rfl, HB.out⟩

set_option maxHeartbeats 4000000 in
set_option maxRecDepth 50000 in
theorem answer_list (l : List Fl) (v : Value) (g cap : Nat) (xs : List Str) (w : World) (hA : AnsAt w v g cap l xs) (h0 : xs.headD [] = kList) :
    Calls Tryz.prog 140 #[v, .slice (some ⟨g, 0, none⟩) xs.length cap] w fun e w' => e = .returned (SV (answerL l xs)) ∧ Below w.heap.size w w' := by
  obtain ⟨x0, x1, r, rfl⟩ : ∃ x0 x1 r, xs = x0 :: x1 :: r := by
    match xs, hA.two with
    | x0 :: x1 :: r, _ => exact ⟨x0, x1, r, rfl⟩
  obtain rfl : x0 = kList := h0
  have c1 : w.cell? ⟨g, 1, none⟩ = some (SV x1) := hA.cells 1 (by simp)
  have hl1 := hA.short x1 (by simp)
  have HR : Hid (answerL l (kList :: x1 :: r) = _) := answerL_list (l := l) (xs := kList :: x1 :: r) (p := x1) rfl rfl
  have HA : Hid _ := hA
  have hfew := hA.few
  have hcap := hA.cap
  unfold maxLen at hcap
  simp only [List.length_cons] at hfew hcap ⊢
  clear hA
  go_enter Tryz.func140, Tryz.ntmps140
  go_wp2_with fail
  refine (get_any l v x1 _ HA.out.files).mono ?_
  rintro e w ⟨rfl, rfl⟩
  go_wp2_with fail
  refine (isDir_any l v x1 _ HA.out.files HA.out.small.small (by unfold maxLen; omega)).mono ?_
  rintro e w2 ⟨rfl, hb2⟩
  have HA2 : Hid _ := HA.out.below hb2
  have c0 : w2.cell? ⟨g, 0, none⟩ = some (SV [108, 105, 115, 116]) := HA2.out.cells 0 (by simp)
  have HB : Hid _ := hb2
  clear c1 hb2 HA
  generalize getI l x1 = gi at *
  cases hd : isDirL l x1
  · have R : Hid (answerL l (kList :: x1 :: r) = noT) := by rw [Hid, HR.out, listL, hd]; rfl
    go_wp2
    go_ret
    exact ⟨by rw [R.out]; rfl, HB.out⟩
  · have R : Hid (answerL l (kList :: x1 :: r) = listedL (inL l x1)) := by rw [Hid, HR.out, listL, hd]; rfl
    go_wp2_with fail
    refine (in_any l v x1 _ HA2.out.files HA2.out.small.small (by unfold maxLen; omega)).mono ?_
    rintro e w3 ⟨v3, rfl, hown3, hb3⟩
    have hF3 : FilesAt w3 v3 (inL l x1) := ownsRow_le hown3 (Nat.zero_le _)
    have hS3 : Small (inL l x1) := inL_small HA2.out.small.small
    clear hown3
    go_wp2_with fail
    refine (listed_any (inL l x1) v3 _ hF3 hS3).mono ?_
    rintro e w4 ⟨rfl, hb4⟩
    have HB4 : Hid (Below w.heap.size w w4) := (HB.out.trans (hb3.mono HB.out.size)).trans (hb4.mono (Nat.le_trans HB.out.size hb3.size))
    clear hb3 hb4 hF3 hS3 c0
    go_wp2
    go_ret
    exact ⟨congrArg (fun s => Ending.returned (SV s)) R.out.symm, HB4.out⟩

set_option maxHeartbeats 4000000 in
set_option maxRecDepth 50000 in
theorem answer_read (l : List Fl) (v : Value) (g cap : Nat) (xs : List Str) (w : World) (hA : AnsAt w v g cap l xs) (h0 : xs.headD [] = kRead) :
    Calls Tryz.prog 140 #[v, .slice (some ⟨g, 0, none⟩) xs.length cap] w fun e w' => e = .returned (SV (answerL l xs)) ∧ Below w.heap.size w w' := by
  have hap := app_list
  obtain ⟨x0, x1, r, rfl⟩ : ∃ x0 x1 r, xs = x0 :: x1 :: r := by
    match xs, hA.two with
    | x0 :: x1 :: r, _ => exact ⟨x0, x1, r, rfl⟩
  obtain rfl : x0 = kRead := h0
  have c1 : w.cell? ⟨g, 1, none⟩ = some (SV x1) := hA.cells 1 (by simp)
  have hl1 := hA.short x1 (by simp)
  have HR : Hid (answerL l (kRead :: x1 :: r) = _) := answerL_read (l := l) (xs := kRead :: x1 :: r) (p := x1) rfl rfl
  have HA : Hid _ := hA
  have hfew := hA.few
  have hcap := hA.cap
  unfold maxLen at hcap
  simp only [List.length_cons] at hfew hcap ⊢
  clear hA
  go_enter Tryz.func140, Tryz.ntmps140
  go_wp2_with fail
  refine (get_any l v x1 _ HA.out.files).mono ?_
  rintro e w ⟨rfl, rfl⟩
  go_wp2_with fail
  refine (isDir_any l v x1 _ HA.out.files HA.out.small.small (by unfold maxLen; omega)).mono ?_
  rintro e w2 ⟨rfl, hb2⟩
  have HA2 : Hid _ := HA.out.below hb2
  have c0 : w2.cell? ⟨g, 0, none⟩ = some (SV [114, 101, 97, 100]) := HA2.out.cells 0 (by simp)
  have HB : Hid _ := hb2
  clear c1 hb2 HA
  by_cases hf : 0 ≤ getI l x1
  · obtain ⟨k, hk, hkl⟩ := getI_lt hf
    have R : Hid (answerL l (kRead :: x1 :: r) = [61] ++ l[k].2) := by rw [Hid, HR.out, readL, if_pos hf, hk, dataAt, Int.toNat_natCast, List.getElem?_eq_getElem hkl]; rfl
    obtain ⟨a1, cp1, rfl, hm1, hc1, hv1⟩ := files_view HA2.out.files
    obtain ⟨g2, rfl, hg2, _, cd⟩ := hv1 k hkl
    have hdl := (HA2.out.small.2 l[k] (List.getElem_mem hkl)).2
    have hki : (k : Int) < (l.length : Int) := by omega
    have hl20 := HA2.out.small.1
    rw [hk] at hf ⊢
    clear hv1 HA2 hk
    go_wp2
    go_ret
    exact ⟨congrArg (fun s => Ending.returned (SV s)) R.out.symm, HB.out⟩
  · have R : Hid (answerL l (kRead :: x1 :: r) = noT) := by rw [Hid, HR.out, readL, if_neg hf]
    generalize getI l x1 = gi at *
    go_wp2
    go_ret
    exact ⟨by rw [R.out]; rfl, HB.out⟩

set_option maxHeartbeats 8000000 in
set_option maxRecDepth 50000 in
theorem answer_glob (l : List Fl) (v : Value) (g cap : Nat) (xs : List Str) (w : World) (hA : AnsAt w v g cap l xs) (h0 : xs.headD [] = kGlob) :
    Calls Tryz.prog 140 #[v, .slice (some ⟨g, 0, none⟩) xs.length cap] w fun e w' => e = .returned (SV (answerL l xs)) ∧ Below w.heap.size w w' := by
  have hap := app_list
  obtain ⟨x0, x1, r, rfl⟩ : ∃ x0 x1 r, xs = x0 :: x1 :: r := by
    match xs, hA.two with
    | x0 :: x1 :: r, _ => exact ⟨x0, x1, r, rfl⟩
  obtain rfl : x0 = kGlob := h0
  have c1 : w.cell? ⟨g, 1, none⟩ = some (SV x1) := hA.cells 1 (by simp)
  have hl1 := hA.short x1 (by simp)
  have HR : Hid (answerL l (kGlob :: x1 :: r) = _) := answerL_glob (l := l) (xs := kGlob :: x1 :: r) (p := x1) rfl rfl
  have HA : Hid _ := hA
  have hfew := hA.few
  have hcap := hA.cap
  unfold maxLen at hcap
  simp only [List.length_cons] at hfew hcap ⊢
  clear hA
  go_enter Tryz.func140, Tryz.ntmps140
  go_wp2_with fail
  refine (get_any l v x1 _ HA.out.files).mono ?_
  rintro e w ⟨rfl, rfl⟩
  go_wp2_with fail
  refine (isDir_any l v x1 _ HA.out.files HA.out.small.small (by unfold maxLen; omega)).mono ?_
  rintro e w2 ⟨rfl, hb2⟩
  have HA2 : Hid _ := HA.out.below hb2
  have c0 : w2.cell? ⟨g, 0, none⟩ = some (SV [103, 108, 111, 98]) := HA2.out.cells 0 (by simp)
  have HB : Hid _ := hb2
  clear c1 hb2 HA
  generalize getI l x1 = gi at *
  generalize isDirL l x1 = dd at *
  obtain ⟨a1, cp1, rfl, hm1, hc1, hv1⟩ := files_view HA2.out.files
  have HV : Hid _ := hv1
  have HT : Hid _ := HA2.out.small.2
  have hl20 := HA2.out.small.1
  clear HA2 hv1
  go_wp2
  go_loopw [8, 9] (fun s i wz => ∃ k : Nat, k ≤ l.length ∧ i = .int .i64 k ∧ s = SV (globL (l.take k) x1) ∧ Below w2.heap.size w2 wz) (fun _ i _ => l.length - (intOf i).toNat)
  case atStart => exact ⟨0, Nat.zero_le _, rfl, rfl, Below.refl _ _⟩
  case round =>
    obtain ⟨k, hk, rfl, rfl, hbz⟩ := hrel
    clear c0
    by_cases hlt : k < l.length
    · obtain ⟨g2, rfl, hg2, hpc, _⟩ := HV.out k hlt
      have hpk : wr.cell? ⟨g2, k * 2, none⟩ = some (SV l[k].1) := (hbz.cell (p := ⟨g2, k * 2, none⟩) hg2).trans hpc
      have hkl := (HT.out l[k] (List.getElem_mem hlt)).1
      have hgl := glob_len (p := x1) (fun f hf => (HT.out f hf).1) k
      have HG : Hid _ := glob_take (p := x1) hlt
      have hki : (k : Int) < (l.length : Int) := by omega
      have C := fits_any x1 l[k].1 wr (by omega) (by omega)
      have HBZ : Hid _ := hbz
      clear hpc hbz
      generalize globL (l.take k) x1 = s at *
      cases hft : fitsL x1 l[k].1
      · have R : Hid (globL (l.take (k + 1)) x1 = s) := by rw [Hid, HG.out, hft]; simp
        rw [hft] at C
        clear HG
        go_wp2_with fail
        refine C.mono ?_
        rintro e w4 ⟨rfl, hb4⟩
        have HB4 : Hid _ := HBZ.out.trans (hb4.mono HBZ.out.size)
        clear C hb4 hpk
        go_wp2
        go_roundw
        case rel => exact ⟨k + 1, by omega, by go_num, by rw [R.out] <;> simp, HB4.out⟩
        case measure => simp [intOf]; omega
      · have R : Hid (globL (l.take (k + 1)) x1 = s ++ l[k].1 ++ [10]) := by rw [Hid, HG.out, hft]; simp
        rw [hft] at C
        clear HG
        go_wp2_with fail
        refine C.mono ?_
        rintro e w4 ⟨rfl, hb4⟩
        have hpk4 : w4.cell? ⟨g2, k * 2, none⟩ = some (SV l[k].1) := (hb4.cell (p := ⟨g2, k * 2, none⟩) (by have := HBZ.out.size; simp only; omega)).trans hpk
        have HB4 : Hid _ := HBZ.out.trans (hb4.mono HBZ.out.size)
        clear C hb4 hpk
        go_wp2
        go_roundw
        case rel => exact ⟨k + 1, by omega, by go_num, by rw [R.out] <;> simp, HB4.out⟩
        case measure => simp [intOf]; omega
    · have R : Hid (SV (globL (l.take k) x1) = SV (answerL l (kGlob :: x1 :: r))) := by rw [Hid, HR.out, List.take_of_length_le (by omega)]
      have HBZ : Hid _ := hbz
      have hki : ¬ (k : Int) < (l.length : Int) := by omega
      clear hbz
      generalize globL (l.take k) x1 = s at *
      go_wp2
      go_ret
      exact ⟨congrArg Ending.returned R.out, HB.out.trans (HBZ.out.mono HB.out.size)⟩

end Go.Proofs.YtdcbgfhkfmohiaaGreatDoor

/- The document's Answer: first; Ask. -/
namespace Go.Proofs.YtdcbgfhkfmohiaaGreatDoor
open Go.RowKit

set_option maxHeartbeats 8000000 in
set_option maxRecDepth 50000 in
theorem answer_first (l : List Fl) (v : Value) (g cap : Nat) (xs : List Str) (w : World) (hA : AnsAt w v g cap l xs) (h0 : xs.headD [] = kFirst) :
    Calls Tryz.prog 140 #[v, .slice (some ⟨g, 0, none⟩) xs.length cap] w fun e w' => e = .returned (SV (answerL l xs)) ∧ Below w.heap.size w w' := by
  have hap := app_list
  have h2 := hA.two
  have h1l : 1 < xs.length := by omega
  have h0l : 0 < xs.length := by omega
  have c1 := hA.cells 1 h1l
  have hl1 := hA.short xs[1] (List.getElem_mem h1l)
  have HR : Hid _ := answerL_first (l := l) (p := xs[1]) h0 (by simp [h1l])
  have hx0 : xs[0] = [102, 105, 114, 115, 116] := by
    rw [show ([102, 105, 114, 115, 116] : Str) = kFirst from rfl, ← h0]
    cases xs with
    | nil => simp at h0l
    | cons x r => rfl
  have HA : Hid _ := hA
  have hfew := hA.few
  have hcap := hA.cap
  unfold maxLen at hcap
  clear hA h0
  go_enter Tryz.func140, Tryz.ntmps140
  go_wp2_with fail
  refine (get_any l v xs[1] _ HA.out.files).mono ?_
  rintro e w ⟨rfl, rfl⟩
  go_wp2_with fail
  refine (isDir_any l v xs[1] _ HA.out.files HA.out.small.small (by unfold maxLen; omega)).mono ?_
  rintro e w2 ⟨rfl, hb2⟩
  have HA2 : Hid _ := HA.out.below hb2
  have c0 := HA2.out.cells 0 h0l
  rw [hx0] at c0
  have HB : Hid _ := hb2
  clear c1 hb2 HA hx0
  generalize getI l xs[1] = gi at *
  generalize isDirL l xs[1] = dd at *
  go_wp2
  go_loopw [11] (fun i wz => ∃ k : Nat, 2 ≤ k ∧ k ≤ xs.length ∧ i = .int .i64 k ∧ Below w2.heap.size w2 wz ∧ answerL l xs = firstL l xs[1] (xs.drop k)) (fun i _ => xs.length - (intOf i).toNat)
  case atStart => exact ⟨2, Nat.le_refl _, by omega, rfl, Below.refl _ _, HR.out⟩
  case round =>
    obtain ⟨k, hk2, hk, rfl, hbz, hans⟩ := hrel
    have HAr : Hid _ := HA2.out.below hbz
    have HBZ : Hid _ := hbz
    clear hbz
    clear c0
    by_cases hlt : k < xs.length
    · have ck := HAr.out.cells k hlt
      have cx := HAr.out.cells 1 h1l
      have hxl := HA2.out.short _ (List.getElem_mem hlt)
      have FH : Hid _ := first_hit (l := l) (x := xs[1]) hlt
      have FM : Hid _ := first_miss (l := l) (x := xs[1]) hlt
      have HANS : Hid _ := hans
      have hki : (k : Int) < (xs.length : Int) := by omega
      have h1i : (1 : Int) < (xs.length : Int) := by omega
      have HD : Hid (∀ d x : Str, (d == [47]) = false → inDir d x = d ++ 47 :: x) := fun d x h => by unfold inDir; rw [if_neg (by simpa using h)]
      have HD2 : Hid (∀ d x : Str, (d == [47]) = true → inDir d x = x) := fun d x h => by unfold inDir; rw [if_pos h]
      have CG : Hid (∀ p n', Calls Tryz.prog 129 #[v, SV p] (wr.drewN n') fun e w' => e = .returned (.int .i64 (getI l p)) ∧ w' = wr.drewN n') := fun p n' => get_any l v p _ (HAr.out.below (below_drewN (Below.refl _ _) _)).files
      clear hans
      cases hr : (xs[k] == [47])
      · have HI : Hid _ := HD.out xs[k] xs[1] hr
        rw [HI.out] at FH FM
        by_cases hf : 0 ≤ getI l (xs[k] ++ (47 : UInt8) :: xs[1])
        · have R : Hid _ := HANS.out.trans (FH.out hf)
          clear FH FM HANS HD HD2 HI
          go_wp2_with fail
          go_quiet (fail)
          go_wp2_with (go_at_call 129; refine (CG.out (xs[k] ++ (47 : UInt8) :: xs[1]) _).mono ?_; rintro e w4 ⟨rfl, rfl⟩)
          go_ret
          exact ⟨congrArg (fun s => Ending.returned (SV s)) R.out.symm, below_drewN (HB.out.trans (HBZ.out.mono HB.out.size)) _⟩
        · have R : Hid _ := HANS.out.trans (FM.out hf)
          clear FH FM HANS HD HD2 HI
          go_wp2_with fail
          go_quiet (fail)
          go_wp2_with (go_at_call 129; refine (CG.out (xs[k] ++ (47 : UInt8) :: xs[1]) _).mono ?_; rintro e w4 ⟨rfl, rfl⟩)
          go_roundw
          case rel => exact ⟨k + 1, by omega, by omega, by go_num, below_drewN HBZ.out _, R.out⟩
          case measure => simp [intOf]; omega
      · have HI : Hid _ := HD2.out xs[k] xs[1] hr
        rw [HI.out] at FH FM
        by_cases hf : 0 ≤ getI l xs[1]
        · have R : Hid _ := HANS.out.trans (FH.out hf)
          clear FH FM HANS HD HD2 HI
          go_wp2_with fail
          go_quiet (fail)
          go_wp2_with (go_at_call 129; refine (CG.out xs[1] _).mono ?_; rintro e w4 ⟨rfl, rfl⟩)
          go_ret
          exact ⟨congrArg (fun s => Ending.returned (SV s)) R.out.symm, below_drewN (HB.out.trans (HBZ.out.mono HB.out.size)) _⟩
        · have R : Hid _ := HANS.out.trans (FM.out hf)
          clear FH FM HANS HD HD2 HI
          go_wp2_with fail
          go_quiet (fail)
          go_wp2_with (go_at_call 129; refine (CG.out xs[1] _).mono ?_; rintro e w4 ⟨rfl, rfl⟩)
          go_roundw
          case rel => exact ⟨k + 1, by omega, by omega, by go_num, below_drewN HBZ.out _, R.out⟩
          case measure => simp [intOf]; omega
    · have R : Hid (answerL l xs = noT) := by rw [Hid, hans, List.drop_eq_nil_of_le (by omega)]; rfl
      have hki : ¬ (k : Int) < (xs.length : Int) := by omega
      clear hans
      go_wp2
      go_ret
      exact ⟨by rw [R.out]; rfl, HB.out.trans (HBZ.out.mono HB.out.size)⟩

/-- Answer, of words that Check lets by. -/
theorem refAnswer_any (l : List Fl) (v wv : Value) (xs : List Str) (w : World) (hl : FilesAt w v l) (ht : Tiny l) (hw : WordsAt w wv xs) (hx : ∀ x ∈ xs, x.length ≤ 60) (hn : xs.length ≤ 1000) (hc : checkW xs = 0) :
    Calls Tryz.prog 140 #[v, wv] w fun e w' => e = .returned (SV (answerL l xs)) ∧ Below w.heap.size w w' := by
  obtain ⟨g, cap, rfl, h1, h2, h3, h4⟩ := hw
  have h2l : 2 ≤ xs.length ∧ (xs.headD [] = kGlob ∨ xs.headD [] = kFirst ∨ xs.headD [] = kExists ∨ xs.headD [] = kList ∨ xs.headD [] = kRead) := by
    unfold checkW at hc
    split at hc
    · omega
    · split at hc
      · rename_i h
        split at hc
        · rename_i e; exact ⟨by omega, .inl (by simpa using h)⟩
        · omega
      · split at hc
        · rename_i h
          split at hc
          · omega
          · exact ⟨by omega, .inr (.inl (by simpa using h))⟩
        · split at hc
          · rename_i h
            split at hc
            · refine ⟨by omega, .inr (.inr ?_)⟩
              simpa [Bool.or_eq_true, or_assoc] using h
            · omega
          · omega
  have hA : AnsAt w v g cap l xs := ⟨hl, ht, h4, h3, ⟨h1, h2⟩, h2l.1, hn, hx⟩
  rcases h2l.2 with h | h | h | h | h
  · exact answer_glob l v g cap xs w hA h
  · exact answer_first l v g cap xs w hA h
  · exact answer_exists l v g cap xs w hA h
  · exact answer_list l v g cap xs w hA h
  · exact answer_read l v g cap xs w hA h

theorem askR_none {r : RSt} {n : Int} {q : Str} (h : findL r.all n = none) : askR r n q = ([], 2) := by unfold askR; rw [h]
theorem askR_bad {r : RSt} {n : Int} {q : Str} {l : List Fl} (h : findL r.all n = some l) (hc : checkL q ≠ 0) : askR r n q = ([], checkL q) := by unfold askR; rw [h]; simp only; rw [if_neg hc]
theorem askR_ok {r : RSt} {n : Int} {q : Str} {l : List Fl} (h : findL r.all n = some l) (hc : checkL q = 0) : askR r n q = (answerL l (splitL 32 q), 0) := by unfold askR; rw [h]; simp only; rw [if_pos hc]
theorem check_ok {q : Str} (h : checkL q = 0) : q.length ≤ 60 ∧ checkW (splitL 32 q) = 0 := by
  unfold checkL at h
  split at h
  · omega
  · exact ⟨by omega, h⟩
theorem words_ok {q : Str} (h : q.length ≤ 60) : (∀ x ∈ splitL 32 q, x.length ≤ 60) ∧ (splitL 32 q).length ≤ 1000 :=
  ⟨fun x hx => by have := splitL_piece 32 q x hx; omega, by have := splitL_len 32 q; omega⟩

set_option maxHeartbeats 4000000 in
set_option maxRecDepth 50000 in
theorem refAsk_any (b : Nat) (r : RSt) (va vr : Value) (sn : List (Nat × Value)) (n : Int) (q : Str) (w : World) (h : RefAt w b r va vr sn) (hq : q.length + 1 < maxLen) :
    Calls Tryz.prog 104 #[.pointer (some ⟨b, 0, none⟩), .int .i64 n, SV q] w fun e w' => DiffOut w (askR r n q) e w' := by
  have H : Hid _ := h
  clear h
  go_enter Tryz.func104, Tryz.ntmps104
  go_wp2_with fail
  refine (find_any b r va vr sn n _ H.out).mono ?_
  rintro e w ⟨rfl, hf⟩
  rcases hf with ⟨k, h1, h2, hfl, rfl⟩ | ⟨hfl, rfl⟩
  · have hF := H.out.fil k h1 h2
    have hT := H.out.tiny r.all[k] (List.getElem_mem h2)
    generalize r.all[k].2 = l at *
    generalize sn[k].2 = v at *
    obtain ⟨ao, cap, rfl⟩ := row_form hF
    have Hfl : Hid _ := hfl
    clear h1 h2 hfl
    go_wp2_with fail
    refine (check_any q w hq).mono ?_
    rintro e w2 ⟨hb2, ⟨hc, v2, rfl, hw2⟩ | ⟨hc, rfl⟩⟩
    · obtain ⟨hc1, hc2⟩ := check_ok hc
      obtain ⟨hx, hn⟩ := words_ok hc1
      have R : Hid _ := askR_ok Hfl.out hc
      have CA : Hid (Calls Tryz.prog 140 #[.slice ao l.length cap, v2] w2 fun e w' => e = .returned (SV (answerL l (splitL 32 q))) ∧ Below w2.heap.size w2 w') := refAnswer_any l _ v2 (splitL 32 q) w2 (files_below hF hb2 (Nat.le_refl _)) hT hw2 hx hn hc2
      have HB2 : Hid _ := hb2
      obtain ⟨g2, cap2, rfl, _⟩ := hw2
      clear hF hT hb2 Hfl hc hc2 hx hn H
      generalize answerL l (splitL 32 q) = an at *
      go_wp2_with fail
      refine CA.out.mono ?_
      rintro e w3 ⟨rfl, hb3⟩
      have RR : Hid (DiffOut w (askR r n q) (.returned (.tuple #[SV an, .int .i64 0])) w3) := by rw [Hid, R.out]; exact ⟨rfl, HB2.out.trans (hb3.mono HB2.out.size)⟩
      clear hb3 CA R
      go_wp2
      go_ret2
      exact RR.out
    · have R : Hid (DiffOut w (askR r n q) (.returned (.tuple #[SV [], .int .i64 (checkL q : Nat)])) w2) := by rw [Hid, askR_bad Hfl.out hc]; exact ⟨rfl, hb2⟩
      have hc' : ¬ (checkL q : Int) = 0 := by omega
      clear hF hT hb2 Hfl H hc
      generalize (checkL q : Int) = ce at *
      go_wp2
      go_ret2
      exact R.out
  · have R : Hid (DiffOut w (askR r n q) (.returned (.tuple #[SV [], .int .i64 2])) w) := by rw [Hid, askR_none hfl]; exact ⟨rfl, Below.refl _ _⟩
    clear hfl H
    go_wp2
    go_ret2
    exact R.out

end Go.Proofs.YtdcbgfhkfmohiaaGreatDoor

/- Contracts of the library's strings.Split at one byte. -/
namespace Go.Proofs.YtdcbgfhkfmohiaaGreatDoor
open Go.RowKit

theorem splitL_count (c : UInt8) (s : Str) : (splitL c s).length = Lib.countByte s c + 1 := by
  unfold Lib.countByte
  induction s with
  | nil => simp [splitL]
  | cons b t ih =>
    unfold splitL
    by_cases h : b = c
    · rw [if_pos h, List.length_cons, ih, h, List.count_cons_self]
    · rw [if_neg h, List.count_cons_of_ne h]
      have := splitL_ne c t
      split
      · rename_i e; rw [e] at ih; simpa using ih
      · rename_i e; exact absurd e this

set_option maxHeartbeats 1000000 in
set_option maxRecDepth 100000 in
theorem count_any (s : Str) (c : UInt8) (w : World) :
    Calls Tryz.prog 146 #[SV s, SV [c]] w fun e w' => e = .returned (.int .i64 (Lib.countByte s c : Nat)) ∧ w' = w := by
  have hG := get_list
  go_enter Tryz.func146, Tryz.ntmps146
  go_wp2
  rw [run_callFunc_extern Tryz.func174 (by kernel_rfl) (by kernel_rfl) (by kernel_rfl) (e := Extern.BytealgCount.count) (by kernel_rfl), Lib.run_countString]
  simp only [Result.andThen]
  rw [Oper.upon_value]
  go_wp2
  go_ret
  exact ⟨ret_int (by simp), rfl⟩

set_option maxHeartbeats 2000000 in
set_option maxRecDepth 100000 in
theorem genSplitAll_any (s : Str) (c : UInt8) (w : World) (hs : s.length ≤ 1000) :
    Calls Tryz.prog 115 #[SV s, SV [c], .int .i64 0, .int .i64 (-1)] w fun e w' => ∃ v, e = .returned v ∧ w'.ownsRow w.heap.size 9 1 v (splitL c s).length ((splitL c s).map SV) ∧ Below w.heap.size w w' := by
  obtain ⟨i0, hi, hz0, hz1, hz2⟩ := info_parts Tryz.infoStr
  have hX := extract_list
  obtain ⟨n, hn⟩ : ∃ n, n = Lib.countByte s c := ⟨_, rfl⟩
  have hlen := splitL_count c s
  have Hn : Hid (splitNL c n s = splitL c s) := splitNL_all (by omega)
  have hn2 : n ≤ s.length := by have := splitL_len c s; omega
  have hmin : (min (n : Int) (s.length : Int)) = (n : Int) := by omega
  have hn1 : n ≤ 1000 := by omega
  have CC := count_any s c w
  rw [← hn] at CC
  clear hn hlen
  go_enter Tryz.func115, Tryz.ntmps115
  go_wp2_with (first | (go_at_call 146; refine CC.mono ?_; rintro e w ⟨rfl, rfl⟩) | (at_make; go_loud (refine wpList_make_full _ rfl (.tmp 30) (.tmp 30) 48 rfl w.heap.size 9 i0 _ 1 Tryz.underlying48 hi hz0 hz1 _ _ _ _ (n + 1) rfl rfl ?_ ?_ ?_ ?_ ?_ ?_)))
  · first | omega | (split <;> omega)
  · first | omega | (split <;> omega)
  · rw [hz2]; omega
  · unfold maxLen; omega
  · exact Nat.le_refl _
  intro w1 hown1 hg1
  have hb1 : Below w.heap.size w w1 := (Below.refl _ _).grown hg1 (Nat.le_refl _) (fun k hk => by simp at hk)
  obtain ⟨zs0, hzs⟩ : ∃ zs0, w1.ownsRow w.heap.size 9 1 (.slice (some ⟨w.heap.size, 0, none⟩) (n + 1) (n + 1)) (n + 1) zs0 := ⟨_, hown1⟩
  clear hown1 hg1 CC
  go_wp2
  clear hmin
  go_loopw [0, 10, 11] (fun sv i _ wr => ∃ (xs : List Str) (rest : Str) (q : Nat) (zs : List Value), i = .int .i64 xs.length ∧ sv = SV rest ∧ CutAt c n s xs rest q ∧ wr.ownsRow w.heap.size 9 1 (.slice (some ⟨w.heap.size, 0, none⟩) (n + 1) (n + 1)) (n + 1) zs ∧ zs.take xs.length = xs.map SV ∧ Below w.heap.size w wr) (fun _ i _ _ => n - (intOf i).toNat)
  case atStart => exact ⟨[], s, n, zs0, rfl, rfl, ⟨by simp, rfl, Nat.le_refl _⟩, hzs, by simp, hb1⟩
  case round =>
    clear hzs hb1
    obtain ⟨xs, rest, q, zs, rfl, rfl, hC, hown, htk, hbel⟩ := hrel
    have hcnt := hC.cnt
    have hrl := hC.len
    have hzl : zs.length = n + 1 := by have := hown.1; omega
    have hcell := hown.cellAt xs.length (by omega)
    have hfz := hown.frozenAt xs.length
    obtain ⟨u0, hu0⟩ : ∃ u, zs[xs.length]? = some u := ⟨_, List.getElem?_eq_getElem (by omega)⟩
    rw [hu0] at hcell
    have hml : rest.length ≤ maxLen := by unfold maxLen; omega
    have hge := Lib.indexByte_ge rest c
    cases q with
    | zero =>
      have R : Hid _ := hC.ends (.inl rfl)
      have hxn : n ≤ xs.length := by omega
      have hst := set_take (t := rest) (by omega) htk
      have hos := hown.stored xs.length (SV rest)
      clear hC
      go_wp2
      go_ret
      rw [← Hn.out]
      exact cut_end (by omega) hst hbel R.out (fun m hm => row_take hos.1 hm)
    | succ q =>
      have hxn : xs.length < n := by omega
      by_cases hneg : Lib.indexByte rest c < 0
      · have R : Hid _ := hC.ends (.inr hneg)
        have hst := set_take (t := rest) (by omega) htk
        have hos := hown.stored xs.length (SV rest)
        clear hC
        go_wp2_with (go_at_call 147; refine (index_any rest c _ hml).mono ?_; rintro e w' ⟨rfl, rfl⟩)
        go_ret
        rw [← Hn.out]
        exact cut_end (by omega) hst hbel R.out (fun m hm => row_take hos.1 hm)
      · obtain ⟨m, hm⟩ := Int.eq_ofNat_of_zero_le (show 0 ≤ Lib.indexByte rest c by omega)
        have R := hC.step hm
        have hsp := (indexByte_split hm).1
        have hst := set_take (t := rest.take m) (by omega) htk
        have hos := hown.stored xs.length (SV (rest.take m))
        clear hC
        go_wp2_with (go_at_call 147; refine (index_any rest c _ hml).mono ?_; rintro e w' ⟨rfl, rfl⟩)
        go_roundw
        case rel => exact ⟨xs ++ [rest.take m], rest.drop (m + 1), q, _, by simp, by simp [List.take_of_length_le], R, hos.1, by simpa using hst, hbel.grown hos.2 hbel.size (fun k hk => by simp at hk; omega)⟩
        case measure => simp [intOf]; omega

set_option maxHeartbeats 1000000 in
theorem prgSplit_any (s : Str) (c : UInt8) (w : World) (hs : s.length ≤ 1000) :
    Calls Tryz.prog 79 #[SV s, SV [c]] w fun e w' => ∃ v, e = .returned v ∧ w'.ownsRow w.heap.size 9 1 v (splitL c s).length ((splitL c s).map SV) ∧ Below w.heap.size w w' := by
  go_enter Tryz.func79, Tryz.ntmps79
  go_wp2_with (go_at_call 115; refine (genSplitAll_any s c _ hs).mono ?_; rintro e w' ⟨v, rfl, hown, hbel⟩)
  go_ret
  exact ⟨_, rfl, hown, hbel⟩

end Go.Proofs.YtdcbgfhkfmohiaaGreatDoor

/- The library's contracts of strings.Join, strings.Contains, slices.Contains, slices.Clone at this program. -/
namespace Go.Proofs.YtdcbgfhkfmohiaaGreatDoor
open Go.Shelf
def Tryz.lays156_ren : Go.Shelf.Ren := ⟨fun | 156 => 116 | 165 => 148 | 166 => 48 | 169 => 49 | 240 => 76 | 241 => 176 | 276 => 109 | 277 => 192 | n => n, fun | 31 => 48 | 9 => 9 | 3 => 3 | 4 => 4 | 0 => 0 | 20 => 20 | 72 => 94 | 76 => 106 | 70 => 91 | 37 => 92 | 75 => 104 | 127 => 158 | 164 => 210 | 5 => 5 | 80 => 108 | n => n, fun | n => n⟩
theorem Tryz.lays156 : Go.Proofs.Lays.n156 Tryz.prog Tryz.lays156_ren := {
  mixed := by kernel_rfl
  f156 := Tryz.func116.trans (congrArg some (by kernel_rfl))
  f165 := Tryz.func148.trans (congrArg some (by kernel_rfl))
  f166 := Tryz.func48.trans (congrArg some (by kernel_rfl))
  f169 := Tryz.func49.trans (congrArg some (by kernel_rfl))
  f240 := Tryz.func76.trans (congrArg some (by kernel_rfl))
  f241 := Tryz.func176.trans (congrArg some (by kernel_rfl))
  f276 := Tryz.func109.trans (congrArg some (by kernel_rfl))
  f277 := Tryz.func192.trans (congrArg some (by kernel_rfl))
  t0 := Tryz.underlying0
  a0 := Tryz.isAgg0
  z0 := Tryz.sizeOf0
  v0 := Tryz.zeroValue0
  t3 := Tryz.underlying3
  a3 := Tryz.isAgg3
  z3 := Tryz.sizeOf3
  v3 := Tryz.zeroValue3
  t4 := Tryz.underlying4
  a4 := Tryz.isAgg4
  z4 := Tryz.sizeOf4
  v4 := Tryz.zeroValue4
  t9 := Tryz.underlying9
  a9 := Tryz.isAgg9
  z9 := Tryz.sizeOf9
  v9 := Tryz.zeroValue9
  t20 := Tryz.underlying20
  a20 := Tryz.isAgg20
  z20 := Tryz.sizeOf20
  v20 := Tryz.zeroValue20
  t31 := Tryz.underlying48
  a31 := Tryz.isAgg48
  z31 := Tryz.sizeOf48
  v31 := Tryz.zeroValue48
  t37 := Tryz.underlying92
  a37 := Tryz.isAgg92
  z37 := Tryz.sizeOf92
  v37 := Tryz.zeroValue92
  t70 := Tryz.underlying91
  a70 := Tryz.isAgg91
  z70 := Tryz.sizeOf91
  v70 := Tryz.zeroValue91
  t72 := Tryz.underlying94
  a72 := Tryz.isAgg94
  z72 := Tryz.sizeOf94
  v72 := Tryz.zeroValue94
  t75 := Tryz.underlying104
  a75 := Tryz.isAgg104
  z75 := Tryz.sizeOf104
  v75 := Tryz.zeroValue104
  t76 := Tryz.underlying106
  a76 := Tryz.isAgg106
  z76 := Tryz.sizeOf106
  v76 := Tryz.zeroValue106
  t127 := Tryz.underlying158
  a127 := Tryz.isAgg158
  z127 := Tryz.sizeOf158
  v127 := Tryz.zeroValue158
  t164 := Tryz.underlying210
  a164 := Tryz.isAgg210
  z164 := Tryz.sizeOf210
  v164 := Tryz.zeroValue210 }
theorem Tryz.Builder_Extra_156 : Builder.Extra Tryz.prog Tryz.lays156_ren := {
  sizeBuilder := by kernel_rfl
  liesBuilder := by kernel_rfl
  t5 := Tryz.underlying5
  a5 := Tryz.isAgg5
  z5 := Tryz.sizeOf5
  v5 := Tryz.zeroValue5
  infoByte := by kernel_rfl
  cellsByte := by kernel_rfl
  sizeByte := by kernel_rfl
  neB5 := by decide }
open Go.RowKit in
theorem Tryz.strings_Join_none (a : Option Addr) (c : Nat) (sep : ByteArray) (w : World) :
    Calls Tryz.prog 116 #[.slice a 0 c, .string sep] w fun e w' => e = .returned (.string ⟨#[]⟩) ∧ w' = w := Any.strings_Join_none Tryz.lays156 Tryz.Builder_Extra_156 a c sep w
open Go.RowKit in
theorem Tryz.strings_Join (bk o c : Nat) (xs : List ByteArray) (sep : ByteArray) (w : World) (hcells : ∀ (j : Nat) x, xs[j]? = some x → w.cell? ⟨bk, o + j, none⟩ = some (.string x)) (hbk : bk < w.heap.size) (hN : xs.length ≤ 140737488355328) (hcap : xs.length ≤ c) (hlen : (Lib.join (xs.map (·.data.toList)) sep.data.toList).length ≤ 140737488355328) :
    Calls Tryz.prog 116 #[.slice (some ⟨bk, o, none⟩) xs.length c, .string sep] w fun e w' => e = .returned (.string ⟨(Lib.join (xs.map (·.data.toList)) sep.data.toList).toArray⟩) ∧ Below w.heap.size w w' := Any.strings_Join Tryz.lays156 Tryz.Builder_Extra_156 bk o c xs sep w hcells hbk hN hcap hlen
def Tryz.lays144_ren : Go.Shelf.Ren := ⟨fun | 144 => 171 | 143 => 147 | 219 => 175 | 217 => 188 | 225 => 189 | 224 => 190 | 267 => 191 | 266 => 194 | 314 => 195 | n => n, fun | 9 => 9 | 4 => 4 | 3 => 3 | 5 => 5 | 46 => 225 | 146 => 287 | 51 => 262 | n => n, fun | 1 => 0 | n => n⟩
theorem Tryz.lays144 : Go.Proofs.Lays.n144 Tryz.prog Tryz.lays144_ren := {
  mixed := by kernel_rfl
  f143 := Tryz.func147.trans (congrArg some (by kernel_rfl))
  f144 := Tryz.func171.trans (congrArg some (by kernel_rfl))
  f217 := Tryz.func188.trans (congrArg some (by kernel_rfl))
  f219 := Tryz.func175.trans (congrArg some (by kernel_rfl))
  f224 := Tryz.func190.trans (congrArg some (by kernel_rfl))
  f225 := Tryz.func189.trans (congrArg some (by kernel_rfl))
  f266 := Tryz.func194.trans (congrArg some (by kernel_rfl))
  f267 := Tryz.func191.trans (congrArg some (by kernel_rfl))
  f314 := Tryz.func195.trans (congrArg some (by kernel_rfl))
  t3 := Tryz.underlying3
  a3 := Tryz.isAgg3
  z3 := Tryz.sizeOf3
  v3 := Tryz.zeroValue3
  t4 := Tryz.underlying4
  a4 := Tryz.isAgg4
  z4 := Tryz.sizeOf4
  v4 := Tryz.zeroValue4
  t5 := Tryz.underlying5
  a5 := Tryz.isAgg5
  z5 := Tryz.sizeOf5
  v5 := Tryz.zeroValue5
  t9 := Tryz.underlying9
  a9 := Tryz.isAgg9
  z9 := Tryz.sizeOf9
  v9 := Tryz.zeroValue9
  t46 := Tryz.underlying225
  a46 := Tryz.isAgg225
  z46 := Tryz.sizeOf225
  v46 := Tryz.zeroValue225
  t51 := Tryz.underlying262
  a51 := Tryz.isAgg262
  z51 := Tryz.sizeOf262
  v51 := Tryz.zeroValue262
  t146 := Tryz.underlying287
  a146 := Tryz.isAgg287
  z146 := Tryz.sizeOf287
  v146 := Tryz.zeroValue287
  g1 := by kernel_rfl }
open Go.RowKit Go.Lib in
theorem Tryz.strings_Contains (s sub : ByteArray) (m : Int) (w : World) (hs : s.size < 4294967281) (hm : w.cell? ⟨0, 0, none⟩ = some (.int .i64 m)) :
    Calls Tryz.prog 171 #[.string s, .string sub] w fun e w' => e = .returned (.bool (Lib.contains s.data.toList sub.data.toList)) ∧ w' = w := Any.strings_Contains Tryz.lays144 s sub m w hs hm
def Tryz.lays110_ren : Go.Shelf.Ren := ⟨fun | 110 => 111 | 109 => 143 | n => n, fun | 31 => 48 | 9 => 9 | 4 => 4 | 3 => 3 | 0 => 0 | n => n, fun | n => n⟩
theorem Tryz.lays110 : Go.Proofs.Lays.n110 Tryz.prog Tryz.lays110_ren := {
  mixed := by kernel_rfl
  f109 := Tryz.func143.trans (congrArg some (by kernel_rfl))
  f110 := Tryz.func111.trans (congrArg some (by kernel_rfl))
  t0 := Tryz.underlying0
  a0 := Tryz.isAgg0
  z0 := Tryz.sizeOf0
  v0 := Tryz.zeroValue0
  t3 := Tryz.underlying3
  a3 := Tryz.isAgg3
  z3 := Tryz.sizeOf3
  v3 := Tryz.zeroValue3
  t4 := Tryz.underlying4
  a4 := Tryz.isAgg4
  z4 := Tryz.sizeOf4
  v4 := Tryz.zeroValue4
  t9 := Tryz.underlying9
  a9 := Tryz.isAgg9
  z9 := Tryz.sizeOf9
  v9 := Tryz.zeroValue9
  t31 := Tryz.underlying48
  a31 := Tryz.isAgg48
  z31 := Tryz.sizeOf48
  v31 := Tryz.zeroValue48 }
open Go.Lib in
theorem Tryz.slices_Contains_string (b off n c : Nat) (zs : List ByteArray) (x : ByteArray) (w : World) (hz : n ≤ zs.length) (hbig : n ≤ 9223372036854775807) (hc : ∀ j, j < zs.length → w.cell? ⟨b, off + j, none⟩ = some (.string (zs.getD j ByteArray.empty))) :
    Calls Tryz.prog 111 #[.slice (some ⟨b, off, none⟩) n c, .string x] w fun e w' => e = .returned (.bool (Lib.containsS (zs.take n) x)) ∧ w' = w := Any.slices_Contains_string Tryz.lays110 b off n c zs x w hz hbig hc
open Go.Lib in
theorem Tryz.slices_Contains_string_empty (a : Option Addr) (c : Nat) (x : ByteArray) (w : World) :
    Calls Tryz.prog 111 #[.slice a 0 c, .string x] w fun e w' => e = .returned (.bool false) ∧ w' = w := Any.slices_Contains_string_empty Tryz.lays110 a c x w
def Tryz.laysNm216_ren : Go.Shelf.Ren := ⟨fun | 16 => 119 | n => n, fun | 24 => 48 | 9 => 9 | 4 => 4 | n => n, fun | n => n⟩
theorem Tryz.laysNm216 : Go.Proofs.Lays2.n16 Tryz.prog Tryz.laysNm216_ren := {
  mixed := by kernel_rfl
  f16 := Tryz.func119.trans (congrArg some (by kernel_rfl))
  t4 := Tryz.underlying4
  a4 := Tryz.isAgg4
  z4 := Tryz.sizeOf4
  v4 := Tryz.zeroValue4
  t9 := Tryz.underlying9
  a9 := Tryz.isAgg9
  z9 := Tryz.sizeOf9
  v9 := Tryz.zeroValue9
  t24 := Tryz.underlying48
  a24 := Tryz.isAgg48
  z24 := Tryz.sizeOf48
  v24 := Tryz.zeroValue48
  i9 := by kernel_rfl }
open Go.RowKit Go.Lib in
theorem Tryz.slices_Clone_string (b off n c : Nat) (zs : List ByteArray) (w : World) (hz : n ≤ zs.length) (hbig : n * 16 ≤ 140737488355328) (hc : ∀ j, j < zs.length → w.cell? ⟨b, off + j, none⟩ = some (.string (zs.getD j ByteArray.empty))) :
    Calls Tryz.prog 119 #[.slice (some ⟨b, off, none⟩) n c] w fun e w' => ∃ v', e = .returned v' ∧ w'.ownsRow w.heap.size 9 1 v' n ((zs.take n).map (Value.string)) ∧ v' ≠ .slice none 0 0 ∧ Below w.heap.size w w' := Any.slices_Clone_string Tryz.laysNm216 b off n c zs w hz hbig hc
open Go.RowKit Go.Lib in
theorem Tryz.slices_Clone_string_nil (n c : Nat) (w : World) :
    Calls Tryz.prog 119 #[.slice none n c] w fun e w' => e = .returned (.slice none 0 0) ∧ w' = w := Any.slices_Clone_string_nil Tryz.laysNm216 n c w
open Go.RowKit Go.Lib in
theorem Tryz.slices_Clone_string_zero (a : Addr) (c : Nat) (w : World) :
    Calls Tryz.prog 119 #[.slice (some a) 0 c] w fun e w' => ∃ v', e = .returned v' ∧ w'.ownsRow w.heap.size 9 1 v' 0 [] ∧ v' ≠ .slice none 0 0 ∧ Below w.heap.size w w' := Any.slices_Clone_string_zero Tryz.laysNm216 a c w
end Go.Proofs.YtdcbgfhkfmohiaaGreatDoor
