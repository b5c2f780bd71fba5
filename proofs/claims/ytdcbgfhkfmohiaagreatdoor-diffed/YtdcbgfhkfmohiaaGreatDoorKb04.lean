/- Plain: Cells: how many directories and data there are. -/
import Derived.Test.YtdcbgfhkfmohiaaGreatDoorKb03
import Derived.Lib.Bytealg
import Derived.Lib.IndexLaws
import Derived.Lib.Walk
import Derived.BigCall
import Derived.BigGuard
import Derived.Shelf.Abstract
namespace Go.Proofs.YtdcbgfhkfmohiaaGreatDoor

mutual
def dirsT : Tree → List Ents
  | .file _ => []
  | .dir es => es :: dirsE es
def dirsE : Ents → List Ents
  | [] => []
  | (_, t) :: es => dirsT t ++ dirsE es
end

mutual
theorem mem_dirsT : ∀ (t : Tree), WFT t → ∀ b, b ∈ dirsT t ↔ ∃ D, sub t D = some (.dir b)
  | .file d, _, b => by
    unfold dirsT
    simp only [List.not_mem_nil, false_iff, not_exists]
    intro D h
    cases D with
    | nil => simp [sub] at h
    | cons x r => simp [sub] at h
  | .dir es, h, b => by
    unfold dirsT
    unfold WFT at h
    rw [List.mem_cons, mem_dirsE es h.2 b]
    constructor
    · rintro (rfl | ⟨x, r, t, h1, h2⟩)
      · exact ⟨[], rfl⟩
      · exact ⟨x :: r, by rw [sub, h1]; exact h2⟩
    · rintro ⟨D, hD⟩
      cases D with
      | nil => simp [sub] at hD; exact .inl hD.symm
      | cons x r =>
        rw [sub] at hD
        cases hf : findE es x with
        | none => rw [hf] at hD; simp at hD
        | some t => rw [hf] at hD; exact .inr ⟨x, r, t, hf, hD⟩
theorem mem_dirsE : ∀ (es : Ents), WFE es → ∀ b, b ∈ dirsE es ↔ ∃ x r t, findE es x = some t ∧ sub t r = some (.dir b)
  | [], _, b => by unfold dirsE; simp [findE]
  | (y, u) :: es, h, b => by
    unfold WFE at h
    unfold dirsE
    rw [List.mem_append, mem_dirsT u h.2.1 b, mem_dirsE es h.2.2.2 b]
    constructor
    · rintro (⟨D, hD⟩ | ⟨x, r, t, h1, h2⟩)
      · exact ⟨y, D, u, by rw [findE, if_pos rfl], hD⟩
      · exact ⟨x, r, t, by rw [findE, if_neg (bl_ne (h.2.2.1 _ (findE_mem h1))), h1], h2⟩
    · rintro ⟨x, r, t, h1, h2⟩
      rw [findE] at h1
      split at h1
      · simp at h1; subst h1; exact .inl ⟨r, h2⟩
      · exact .inr ⟨x, r, t, h1, h2⟩
end

theorem mem_dirs {es : Ents} (h : WFE es) (b : Ents) : b ∈ dirsE es ↔ ∃ D, D ≠ [] ∧ sub (.dir es) D = some (.dir b) := by
  rw [mem_dirsE es h]
  constructor
  · rintro ⟨x, r, t, h1, h2⟩; exact ⟨x :: r, by simp, by rw [sub, h1]; exact h2⟩
  · rintro ⟨D, hD, h1⟩
    cases D with
    | nil => exact absurd rfl hD
    | cons x r =>
      rw [sub] at h1
      cases hf : findE es x with
      | none => rw [hf] at h1; simp at h1
      | some t => rw [hf] at h1; exact ⟨x, r, t, hf, h1⟩

/- in, by names. -/
def inN (l : List NF) (D : List Str) : List NF := l.flatMap fun f => if D <+: f.1 ∧ f.1 ≠ D then [(f.1.drop D.length, f.2)] else []

theorem in_names {l : List NF} {D : List Str} (hl : ValidN l) (hD : OkN D) : inL (toF l) (joinP D) = toF (inN l D) := by
  induction l with
  | nil => rfl
  | cons f l ih =>
    have ih := ih fun g hg => hl g (by simp [hg])
    have hf := hl f (by simp)
    have e : inL (toF (f :: l)) (joinP D) = (if (belowL (joinP f.1) (joinP D)).isEmpty then [] else [(belowL (joinP f.1) (joinP D), f.2)]) ++ inL (toF l) (joinP D) := by
      simp only [inL, toF, List.map_cons, List.flatMap_cons]
    have e2 : inN (f :: l) D = (if D <+: f.1 ∧ f.1 ≠ D then [(f.1.drop D.length, f.2)] else []) ++ inN l D := by
      simp only [inN, List.flatMap_cons]
    rw [e, e2, ih]
    rcases below_names hf hD with ⟨h1, h2⟩ | ⟨R, h1, h2, h3⟩
    · rw [h1, if_pos (by rfl), if_neg]
      · simp
      · rintro ⟨h3, h4⟩
        rcases prefix_iff.1 h3 with h5 | h5
        · exact h4 h5
        · exact h2 h5
    · have hne : ¬ (belowL (joinP f.1) (joinP D)).isEmpty = true := by rw [below_empty hf hD]; exact fun h => h ⟨R, h1, h2⟩
      rw [if_neg hne, if_pos ⟨by rw [h2]; exact List.prefix_append _ _, by rw [h2]; intro e; simp at e; exact h1 e⟩, h3]
      have : f.1.drop D.length = R := by rw [h2]; simp
      rw [this]; simp [toF]

theorem ls_prefix (D a b : List Str) : lessS (D ++ a) (D ++ b) = lessS a b := by
  induction D with
  | nil => rfl
  | cons x D ih => rw [List.cons_append, List.cons_append, lessS, if_pos rfl, ih]

theorem inN_mem (l : List NF) (D : List Str) (R : List Str) (d : Str) : (R, d) ∈ inN l D ↔ R ≠ [] ∧ (D ++ R, d) ∈ l := by
  unfold inN
  rw [List.mem_flatMap]
  constructor
  · rintro ⟨f, hf, h⟩
    split at h
    · rename_i hc
      simp at h
      obtain ⟨T, hT⟩ := hc.1
      rw [← hT] at h
      simp at h
      obtain ⟨rfl, rfl⟩ := h
      refine ⟨?_, ?_⟩
      · intro e; subst e; simp at hT; exact hc.2 hT.symm
      · have : f = (D ++ R, f.2) := Prod.ext hT.symm rfl
        rw [← this]; exact hf
    · simp at h
  · rintro ⟨hR, hm⟩
    refine ⟨_, hm, ?_⟩
    rw [if_pos ⟨List.prefix_append _ _, by simp; exact hR⟩]
    simp

theorem inN_sorted {l : List NF} (h : SortedN l) (D : List Str) : SortedN (inN l D) := by
  induction l with
  | nil => exact h
  | cons f l ih =>
    unfold SortedN at h
    rw [List.pairwise_cons] at h
    have ih := ih h.2
    have e2 : inN (f :: l) D = (if D <+: f.1 ∧ f.1 ≠ D then [(f.1.drop D.length, f.2)] else []) ++ inN l D := by
      simp only [inN, List.flatMap_cons]
    rw [e2]
    split
    · rename_i hc
      rw [List.singleton_append]
      unfold SortedN; rw [List.pairwise_cons]
      refine ⟨?_, ih⟩
      rintro ⟨R, d⟩ hR
      have := (inN_mem l D R d).1 hR
      have h2 := h.1 _ this.2
      obtain ⟨T, hT⟩ := hc.1
      rw [← hT] at h2 ⊢
      simp only [List.drop_left]
      rw [ls_prefix] at h2; exact h2
    · exact ih

theorem in_files {es b : Ents} {D : List Str} (h : WFE es) (hD : OkN D) (hs : sub (.dir es) D = some (.dir b)) : inL (toF (filesE es)) (joinP D) = toF (filesE b) ∧ WFE b := by
  have hes : es ≠ [] := by
    intro e; subst e; obtain ⟨h1, _⟩ := hD
    cases D with
    | nil => exact h1 rfl
    | cons x r => simp [sub, findE] at hs
  have hw : WFT (.dir es) := by unfold WFT; exact ⟨hes, h⟩
  have hb : WFE b := by have := sub_wf D hw hs; unfold WFT at this; exact this.2
  refine ⟨?_, hb⟩
  rw [in_names (valid_files h).1 hD]
  congr 1
  refine sorted_unique (inN_sorted (sorted_filesE es h) D) (sorted_filesE b hb) ?_
  rintro ⟨R, d⟩
  rw [inN_mem, mem_root h, mem_root hb, fileAt_sub hs]
  constructor
  · exact fun h => h.2
  · intro h2
    refine ⟨?_, h2⟩
    intro e; subst e
    rw [List.append_nil] at h2
    unfold fileAt at h2; rw [hs] at h2; simp at h2

/-- Where a path has a slash a directory ends. -/
theorem slash_names {P : List Str} (hP : OkN P) (n : Nat) : (joinP P)[n]? = some 47 ↔ ∃ D R, D ≠ [] ∧ R ≠ [] ∧ P = D ++ R ∧ n = (joinP D).length := by
  constructor
  · intro h
    obtain ⟨hn, e⟩ := List.getElem?_eq_some_iff.1 h
    have hp : joinP P = (joinP P).take n ++ 47 :: (joinP P).drop (n + 1) := by
      conv => lhs; rw [← List.take_append_drop n (joinP P), List.drop_eq_getElem_cons hn, e]
    have hs : P = splitL 47 ((joinP P).take n) ++ splitL 47 ((joinP P).drop (n + 1)) := by
      have := hP.split; rw [hp, splitL_app] at this; exact this.symm
    refine ⟨_, _, splitL_ne _ _, splitL_ne _ _, hs, ?_⟩
    rw [join_split]; simp; omega
  · rintro ⟨D, R, hD, hR, rfl, rfl⟩
    rw [joinP_app hD hR]; simp

theorem dirs_texts {es : Ents} (h : WFE es) (x : Str) : x ∈ treeTexts (toF (filesE es)) ↔ ∃ b, (b = es ∨ b ∈ dirsE es) ∧ WFE b ∧ x = spellL (toF (filesE b)) := by
  unfold treeTexts
  rw [List.mem_cons, List.mem_flatMap]
  have hv := (valid_files h).1
  constructor
  · rintro (h1 | ⟨g, hg, h1⟩)
    · exact ⟨es, .inl rfl, h, h1⟩
    · obtain ⟨f, hf, rfl⟩ := List.mem_map.1 hg
      unfold dirTexts at h1
      rw [List.mem_flatMap] at h1
      obtain ⟨n, _, h1⟩ := h1
      split at h1
      · rename_i hs
        simp at h1
        obtain ⟨D, R, hD, hR, e, hn⟩ := (slash_names (hv f hf) n).1 hs
        have hok := hv f hf
        have hDk : OkN D := ⟨hD, fun y hy => hok.2 y (by rw [e]; simp [hy])⟩
        have ht : (joinP f.1).take n = joinP D := by rw [e, joinP_app hD hR, hn]; simp
        rw [ht] at h1
        have hfa := (mem_root h f.1 f.2).1 hf
        have hsub : ∃ b, sub (.dir es) D = some (.dir b) := by
          unfold fileAt at hfa
          rw [e, sub_app] at hfa
          cases hd : sub (.dir es) D with
          | none => rw [hd] at hfa; simp at hfa
          | some t => cases t with
            | dir b => exact ⟨b, rfl⟩
            | file d =>
              rw [hd] at hfa
              cases R with
              | nil => exact absurd rfl hR
              | cons y R => simp [sub] at hfa
        obtain ⟨b, hb⟩ := hsub
        obtain ⟨h2, h3⟩ := in_files h hDk hb
        exact ⟨b, .inr ((mem_dirs h b).2 ⟨D, hD, hb⟩), h3, by rw [h1, h2]⟩
      · simp at h1
  · rintro ⟨b, hb | hb, hwb, hx⟩
    · subst hb; exact .inl hx
    · right
      obtain ⟨D, hD, hs⟩ := (mem_dirs h b).1 hb
      have hes : es ≠ [] := by
        intro e; subst e
        cases D with
        | nil => exact hD rfl
        | cons x r => simp [sub, findE] at hs
      have hw : WFT (.dir es) := by unfold WFT; exact ⟨hes, h⟩
      have hwb2 : WFT (.dir b) := sub_wf D hw hs
      obtain ⟨p, d, hp⟩ := WFT.some _ hwb2
      have hpn : p ≠ [] := by intro e; subst e; rw [fileAt_root] at hp; simp at hp
      have hfm : (D ++ p, d) ∈ filesE es := by rw [mem_root h, ← fileAt_sub hs]; exact hp
      have hok := hv _ hfm
      simp only at hok
      have hDk : OkN D := ⟨hD, fun y hy => hok.2 y (by simp [hy])⟩
      refine ⟨(joinP (D ++ p), d), List.mem_map.2 ⟨_, hfm, rfl⟩, ?_⟩
      unfold dirTexts
      rw [List.mem_flatMap]
      have hsl := (slash_names hok (joinP D).length).2 ⟨D, p, hD, hpn, rfl, rfl⟩
      refine ⟨(joinP D).length, ?_, ?_⟩
      · rw [List.mem_range]; exact (List.getElem?_eq_some_iff.1 hsl).1
      · rw [if_pos hsl]
        have ht : (joinP (D ++ p)).take (joinP D).length = joinP D := by rw [joinP_app hD hpn]; simp
        simp only [ht, (in_files h hDk hs).1, List.mem_singleton]
        exact hx

/-- How many trees of directories the document counts. -/
theorem cells_dirs {roots : List Ents} (hw : ∀ r ∈ roots, WFE r) {ds : List Ents} (hnd : ds.Nodup) (hm : ∀ b, b ∈ ds ↔ ∃ r ∈ roots, b = r ∨ b ∈ dirsE r) : (cellsSt (roots.map fun r => toF (filesE r))).1.length = ds.length := by
  rw [cells_texts]
  have hwd : ∀ b ∈ ds, WFE b := by
    intro b hb
    obtain ⟨r, hr, h | h⟩ := (hm b).1 hb
    · rw [h]; exact hw r hr
    · obtain ⟨D, hD, hs⟩ := (mem_dirs (hw r hr) b).1 h
      have hr0 : r ≠ [] := by
        intro e; subst e
        cases D with
        | nil => exact hD rfl
        | cons x q => simp [sub, findE] at hs
      have hwt : WFT (.dir r) := by unfold WFT; exact ⟨hr0, hw r hr⟩
      have := sub_wf D hwt hs
      unfold WFT at this; exact this.2
  have h1 : (ds.map fun b => spellL (toF (filesE b))).Nodup := nodup_map hnd fun a ha b hb e => spell_files_inj (hwd a ha) (hwd b hb) e
  have h2 : ds.length = (ds.map fun b => spellL (toF (filesE b))).length := by simp
  rw [h2]
  refine nodup_same (addAll_nodup (by simp)) h1 fun x => ?_
  rw [addAll_mem, List.mem_flatMap, List.mem_map]
  constructor
  · rintro (h | ⟨l, hl, hx⟩)
    · simp at h
    · obtain ⟨r, hr, rfl⟩ := List.mem_map.1 hl
      obtain ⟨b, hb, _, e⟩ := (dirs_texts (hw r hr) x).1 hx
      exact ⟨b, (hm b).2 ⟨r, hr, hb⟩, e.symm⟩
  · rintro ⟨b, hb, e⟩
    right
    obtain ⟨r, hr, h⟩ := (hm b).1 hb
    exact ⟨_, List.mem_map.2 ⟨r, hr, rfl⟩, (dirs_texts (hw r hr) x).2 ⟨b, h, hwd b hb, e.symm⟩⟩

/-- How many data of files the document counts. -/
theorem cells_data {roots : List Ents} {fs : List Str} (hnd : fs.Nodup) (hm : ∀ d, d ∈ fs ↔ ∃ r ∈ roots, ∃ p, (p, d) ∈ filesE r) : (cellsSt (roots.map fun r => toF (filesE r))).2.length = fs.length := by
  rw [cells_texts]
  refine nodup_same (addAll_nodup (by simp)) hnd fun d => ?_
  rw [addAll_mem, List.mem_flatMap, hm]
  constructor
  · rintro (h | ⟨l, hl, hx⟩)
    · simp at h
    · obtain ⟨r, hr, rfl⟩ := List.mem_map.1 hl
      obtain ⟨g, hg, rfl⟩ := List.mem_map.1 hx
      obtain ⟨f, hf, rfl⟩ := List.mem_map.1 hg
      exact ⟨r, hr, f.1, hf⟩
  · rintro ⟨r, hr, p, hp⟩
    right
    exact ⟨_, List.mem_map.2 ⟨r, hr, rfl⟩, List.mem_map.2 ⟨_, List.mem_map.2 ⟨_, hp, rfl⟩, rfl⟩⟩

end Go.Proofs.YtdcbgfhkfmohiaaGreatDoor

/- Contracts of the library's strings.SplitN at one byte (what the program's paths are cut with). -/
namespace Go.Proofs.YtdcbgfhkfmohiaaGreatDoor
open Go.RowKit

set_option maxHeartbeats 1000000 in
set_option maxRecDepth 100000 in
theorem indexByte_any (s : Str) (c : UInt8) (w : World) :
    Calls Tryz.prog 188 #[SV s, .int .u8 c.toNat] w fun e w' => e = .returned (.int .i64 (Lib.indexByte s c)) ∧ w' = w := by
  go_enter Tryz.func188, Tryz.ntmps188
  go_wp2
  rw [run_callFunc_extern Tryz.func194 (by kernel_rfl) (by kernel_rfl) (by kernel_rfl) (e := Extern.BytealgIndexByte.indexByte) (by kernel_rfl), Lib.run_indexByteString]
  simp only [Result.andThen]
  rw [Oper.upon_value]
  go_wp2
  go_ret
  exact ⟨ret_int (by simp), rfl⟩

set_option maxHeartbeats 1000000 in
set_option maxRecDepth 100000 in
theorem liteIndex_any (s : Str) (c : UInt8) (w : World) (hs : s.length ≤ maxLen) :
    Calls Tryz.prog 175 #[SV s, SV [c]] w fun e w' => e = .returned (.int .i64 (Lib.indexByte s c)) ∧ w' = w := by
  have hG := get_list
  go_enter Tryz.func175, Tryz.ntmps175
  go_wp2_with (go_at_call 188; refine (indexByte_any s c _).mono ?_; rintro e w' ⟨rfl, rfl⟩)
  · go_ret
    refine ⟨ret_int ?_, rfl⟩
    rename_i h; simp at h; subst h; simp [Lib.indexByte]
  · go_ret
    exact ⟨rfl, rfl⟩

set_option maxHeartbeats 1000000 in
theorem index_any (s : Str) (c : UInt8) (w : World) (hs : s.length ≤ maxLen) :
    Calls Tryz.prog 147 #[SV s, SV [c]] w fun e w' => e = .returned (.int .i64 (Lib.indexByte s c)) ∧ w' = w := by
  go_enter Tryz.func147, Tryz.ntmps147
  go_wp2_with (go_at_call 175; refine (liteIndex_any s c _ hs).mono ?_; rintro e w' ⟨rfl, rfl⟩)
  go_ret
  exact ⟨rfl, rfl⟩

/-- Cut at the first n places of c. -/
def splitNL (c : UInt8) : Nat → Str → List Str
  | 0, s => [s]
  | n + 1, s => if Lib.indexByte s c < 0 then [s] else s.take (Lib.indexByte s c).toNat :: splitNL c n (s.drop ((Lib.indexByte s c).toNat + 1))

theorem splitNL_len (c : UInt8) (n : Nat) (s : Str) : 1 ≤ (splitNL c n s).length ∧ (splitNL c n s).length ≤ n + 1 := by
  induction n generalizing s with
  | zero => simp [splitNL]
  | succ n ih =>
    unfold splitNL; split
    · simp
    · have := ih (s.drop ((Lib.indexByte s c).toNat + 1)); simp; omega

theorem take_free {l : Str} {c : UInt8} {m : Nat} (h : Lib.indexByte l c = m) : ∀ b ∈ l.take m, b ≠ c := by
  intro b hb e
  obtain ⟨j, hj, rfl⟩ := List.getElem_of_mem hb
  have h2 := (Lib.indexByte_some h).2 j (by simp at hj; omega)
  simp at e
  simp at hj
  exact h2 (by rw [List.getElem?_eq_getElem (by omega), e])

theorem indexByte_split {l : Str} {c : UInt8} {m : Nat} (h : Lib.indexByte l c = m) : m < l.length ∧ l = l.take m ++ c :: l.drop (m + 1) := by
  have h1 := (Lib.indexByte_some h).1
  obtain ⟨hm, e⟩ := List.getElem?_eq_some_iff.1 h1
  refine ⟨hm, ?_⟩
  conv => lhs; rw [← List.take_append_drop m l, List.drop_eq_getElem_cons hm, e]

/-- Where there are no more than n places the whole text is cut. -/
theorem splitNL_all {c : UInt8} {n : Nat} {s : Str} (h : (splitL c s).length ≤ n + 1) : splitNL c n s = splitL c s := by
  induction n generalizing s with
  | zero =>
    unfold splitNL
    by_cases hc : ∀ b ∈ s, b ≠ c
    · rw [splitL_none hc]
    · exfalso
      have hne := splitL_ne c s
      by_cases hi : Lib.indexByte s c = -1
      · apply hc; intro b hb e; obtain ⟨j, hj, rfl⟩ := List.getElem_of_mem hb
        exact Lib.indexByte_none hi j (by rw [List.getElem?_eq_getElem hj, e])
      · have hge := Lib.indexByte_ge s c
        obtain ⟨m, hm⟩ := Int.eq_ofNat_of_zero_le (show 0 ≤ Lib.indexByte s c by omega)
        obtain ⟨_, hs⟩ := indexByte_split hm
        rw [hs, splitL_at (take_free hm)] at h
        have := splitL_ne c (s.drop (m + 1))
        cases hx : splitL c (s.drop (m + 1)) with
        | nil => exact this hx
        | cons a b => rw [hx] at h; simp at h
  | succ n ih =>
    unfold splitNL
    by_cases hi : Lib.indexByte s c < 0
    · rw [if_pos hi]
      have hge := Lib.indexByte_ge s c
      have hi' : Lib.indexByte s c = -1 := by omega
      rw [splitL_none]
      intro b hb e; obtain ⟨j, hj, rfl⟩ := List.getElem_of_mem hb
      exact Lib.indexByte_none hi' j (by rw [List.getElem?_eq_getElem hj, e])
    · rw [if_neg hi]
      obtain ⟨m, hm⟩ := Int.eq_ofNat_of_zero_le (show 0 ≤ Lib.indexByte s c by omega)
      obtain ⟨_, hs⟩ := indexByte_split hm
      rw [hm, Int.toNat_natCast]
      have e : splitL c s = s.take m :: splitL c (s.drop (m + 1)) := by
        conv => lhs; rw [hs, splitL_at (take_free hm)]
      rw [e] at h ⊢
      rw [ih (by simpa using h)]
/-- Where there are more the cut ends with n + 1 pieces. -/
theorem splitNL_many {c : UInt8} {n : Nat} {s : Str} (h : n + 1 < (splitL c s).length) : (splitNL c n s).length = n + 1 := by
  induction n generalizing s with
  | zero => simp [splitNL]
  | succ n ih =>
    unfold splitNL
    by_cases hi : Lib.indexByte s c < 0
    · exfalso
      have hge := Lib.indexByte_ge s c
      have hi' : Lib.indexByte s c = -1 := by omega
      rw [splitL_none] at h
      · simp at h
      · intro b hb e; obtain ⟨j, hj, rfl⟩ := List.getElem_of_mem hb
        exact Lib.indexByte_none hi' j (by rw [List.getElem?_eq_getElem hj, e])
    · rw [if_neg hi]
      obtain ⟨m, hm⟩ := Int.eq_ofNat_of_zero_le (show 0 ≤ Lib.indexByte s c by omega)
      obtain ⟨_, hs⟩ := indexByte_split hm
      rw [hm, Int.toNat_natCast]
      have e : splitL c s = s.take m :: splitL c (s.drop (m + 1)) := by
        conv => lhs; rw [hs, splitL_at (take_free hm)]
      rw [e] at h
      rw [List.length_cons, ih (by simpa using h)]

end Go.Proofs.YtdcbgfhkfmohiaaGreatDoor

/- Contracts of the library's strings.SplitN at one byte. -/
namespace Go.Proofs.YtdcbgfhkfmohiaaGreatDoor
open Go.RowKit

/-- n pieces at most are cut where n is no less than the text is long. -/
theorem splitNL_min (c : UInt8) (n : Nat) (s : Str) : splitNL c (min n s.length) s = splitNL c n s := by
  by_cases h : n ≤ s.length
  · rw [Nat.min_eq_left h]
  · have h1 := splitL_len c s
    rw [Nat.min_eq_right (by omega), splitNL_all h1, splitNL_all (by omega)]

/-- The list that is handed back: the pieces, and the rest in its place. -/
theorem cut_end {w w' : World} {n : Nat} {zs : List Value} {xs ps : List Str} {rest : Str} (hx : xs.length ≤ n) (htk : (zs.set xs.length (SV rest)).take (xs.length + 1) = (xs ++ [rest]).map SV) (hb : Below w.heap.size w w') (he : xs ++ [rest] = ps) (hrow : ∀ m, m ≤ n + 1 → (w'.setCell ⟨w.heap.size, xs.length, none⟩ (SV rest)).ownsRow w.heap.size 9 1 (.slice (some ⟨w.heap.size, 0, none⟩) m (n + 1)) m ((zs.set xs.length (SV rest)).take (m * 1))) :
    ∃ v, Ending.returned (.slice (some ⟨w.heap.size, 0, none⟩) (xs.length + 1) (n + 1)) = .returned v ∧ (w'.setCell ⟨w.heap.size, xs.length, none⟩ (SV rest)).ownsRow w.heap.size 9 1 v ps.length (ps.map SV) ∧ Below w.heap.size w (w'.setCell ⟨w.heap.size, xs.length, none⟩ (SV rest)) := by
  subst he
  refine ⟨_, rfl, ?_, hb.setCell (Nat.le_refl _) _⟩
  have h1 := hrow (xs.length + 1) (by omega)
  rw [Nat.mul_one, htk] at h1
  simpa using h1

/-- After some cuts: the pieces, and what is left; q more may be cut. -/
structure CutAt (c : UInt8) (n : Nat) (s : Str) (xs : List Str) (rest : Str) (q : Nat) : Prop where
  cnt : xs.length + q = n
  eq : xs ++ splitNL c q rest = splitNL c n s
  len : rest.length ≤ s.length

theorem CutAt.step {c : UInt8} {n : Nat} {s : Str} {xs : List Str} {rest : Str} {q m : Nat} (h : CutAt c n s xs rest (q + 1)) (hm : Lib.indexByte rest c = m) : CutAt c n s (xs ++ [rest.take m]) (rest.drop (m + 1)) q := by
  refine ⟨by have := h.cnt; simp; omega, ?_, by have := h.len; simp; omega⟩
  rw [← h.eq, splitNL, hm, if_neg (by omega)]; simp

theorem CutAt.ends {c : UInt8} {n : Nat} {s : Str} {xs : List Str} {rest : Str} {q : Nat} (h : CutAt c n s xs rest q) (hm : q = 0 ∨ Lib.indexByte rest c < 0) : xs ++ [rest] = splitNL c n s := by
  rw [← h.eq]
  cases q with
  | zero => rfl
  | succ q => rw [splitNL, if_pos (by omega)]

theorem row_take {w : World} {base : Nat} {e : TypeId} {size n m : Nat} {g cap : Nat} {xs : List Value} (h : w.ownsRow base e size (.slice (some ⟨g, 0, none⟩) n cap) n xs) (hm : m ≤ n) : w.ownsRow base e size (.slice (some ⟨g, 0, none⟩) m cap) m (xs.take (m * size)) := by
  refine ⟨by rw [List.length_take, h.1]; exact Nat.min_eq_left (Nat.mul_le_mul_right _ hm), .inr ?_⟩
  rcases h.2 with ⟨h', _⟩ | ⟨g', cap', cur, h', hb, hg, hnc, hcm, hcs, htake⟩
  · simp at h'
  · simp at h'
    obtain ⟨rfl, rfl⟩ := h'
    refine ⟨g, cap, cur, rfl, hb, hg, by omega, hcm, hcs, ?_⟩
    rw [← htake, List.take_take, Nat.min_eq_left (Nat.mul_le_mul_right _ hm)]

theorem set_take {zs : List Value} {xs : List Str} {i : Nat} {t : Str} (hl : i < zs.length) (h : zs.take i = xs.map SV) : (zs.set i (SV t)).take (i + 1) = (xs ++ [t]).map SV := by
  rw [List.take_succ_eq_append_getElem (by simpa using hl), List.take_set_of_le (Nat.le_refl _), h]; simp

set_option maxHeartbeats 2000000 in
set_option maxRecDepth 100000 in
theorem genSplit_any (s : Str) (c : UInt8) (N : Nat) (w : World) (hs : s.length + 1 < maxLen) (hN1 : 1 ≤ N) (hN2 : N ≤ 1000) :
    Calls Tryz.prog 115 #[SV s, SV [c], .int .i64 0, .int .i64 N] w fun e w' => ∃ v, e = .returned v ∧ w'.ownsRow w.heap.size 9 1 v (splitNL c (N - 1) s).length ((splitNL c (N - 1) s).map SV) ∧ Below w.heap.size w w' := by
  obtain ⟨i0, hi, hz0, hz1, hz2⟩ := info_parts Tryz.infoStr
  unfold maxLen at hs
  have hX := extract_list
  have h0 : ((N : Int) == 0) = false := by simp; omega
  obtain ⟨n, hn⟩ : ∃ n, n = min (N - 1) s.length := ⟨_, rfl⟩
  have Hn : Hid (splitNL c n s = splitNL c (N - 1) s) := by rw [Hid, hn, splitNL_min]
  have hmin : (min (N : Int) ((s.length : Int) + 1)) = (n : Int) + 1 := by omega
  have hn1 : n ≤ 1000 := by omega
  have hn2 : n ≤ s.length := by omega
  have HM : Hid _ := hmin
  clear hn hmin
  go_enter Tryz.func115, Tryz.ntmps115
  go_wp2_with (at_make; go_loud (refine wpList_make_full _ rfl (.tmp 30) (.tmp 30) 48 rfl w.heap.size 9 i0 _ 1 Tryz.underlying48 hi hz0 hz1 _ _ _ _ (n + 1) rfl rfl ?_ ?_ ?_ ?_ ?_ ?_))
  · rw [HM.out]; omega
  · rw [HM.out]; omega
  · rw [hz2]; omega
  · unfold maxLen; omega
  · exact Nat.le_refl _
  intro w1 hown1 hg1
  have hb1 : Below w.heap.size w w1 := (Below.refl _ _).grown hg1 (Nat.le_refl _) (fun k hk => by simp at hk)
  obtain ⟨zs0, hzs⟩ : ∃ zs0, w1.ownsRow w.heap.size 9 1 (.slice (some ⟨w.heap.size, 0, none⟩) (n + 1) (n + 1)) (n + 1) zs0 := ⟨_, hown1⟩
  clear hown1 hg1
  have hmin := HM.out
  go_wp2
  clear hmin
  go_loopw [0, 10, 11] (fun sv i _ wr => ∃ (xs : List Str) (rest : Str) (q : Nat) (zs : List Value), i = .int .i64 xs.length ∧ sv = SV rest ∧ CutAt c n s xs rest q ∧ wr.ownsRow w.heap.size 9 1 (.slice (some ⟨w.heap.size, 0, none⟩) (n + 1) (n + 1)) (n + 1) zs ∧ zs.take xs.length = xs.map SV ∧ Below w.heap.size w wr) (fun _ i _ _ => n - (intOf i).toNat)
  case atStart => exact ⟨[], s, n, zs0, rfl, rfl, ⟨by simp, rfl, Nat.le_refl _⟩, hzs, by simp, hb1⟩
  case round =>
    clear hzs hb1
    obtain ⟨xs, rest, q, zs, rfl, rfl, hC, hown, htk, hbel⟩ := hrel
    have hcnt := hC.cnt
    have hrl := hC.len
    have hzl : zs.length = n + 1 := by have := hown.1; omega
    have hcell := hown.cellAt xs.length (by omega)
    have hfz := hown.frozenAt xs.length
    obtain ⟨u0, hu0⟩ : ∃ u, zs[xs.length]? = some u := ⟨_, List.getElem?_eq_getElem (by omega)⟩
    rw [hu0] at hcell
    have hml : rest.length ≤ maxLen := by unfold maxLen; omega
    have hge := Lib.indexByte_ge rest c
    cases q with
    | zero =>
      have R : Hid _ := hC.ends (.inl rfl)
      have hxn : n ≤ xs.length := by omega
      have hst := set_take (t := rest) (by omega) htk
      have hos := hown.stored xs.length (SV rest)
      clear hC
      go_wp2
      go_ret
      rw [← Hn.out]
      exact cut_end (by omega) hst hbel R.out (fun m hm => row_take hos.1 hm)
    | succ q =>
      have hxn : xs.length < n := by omega
      by_cases hneg : Lib.indexByte rest c < 0
      · have R : Hid _ := hC.ends (.inr hneg)
        have hst := set_take (t := rest) (by omega) htk
        have hos := hown.stored xs.length (SV rest)
        clear hC
        go_wp2_with (go_at_call 147; refine (index_any rest c _ hml).mono ?_; rintro e w' ⟨rfl, rfl⟩)
        go_ret
        rw [← Hn.out]
        exact cut_end (by omega) hst hbel R.out (fun m hm => row_take hos.1 hm)
      · obtain ⟨m, hm⟩ := Int.eq_ofNat_of_zero_le (show 0 ≤ Lib.indexByte rest c by omega)
        have R := hC.step hm
        have hsp := (indexByte_split hm).1
        have hst := set_take (t := rest.take m) (by omega) htk
        have hos := hown.stored xs.length (SV (rest.take m))
        clear hC
        go_wp2_with (go_at_call 147; refine (index_any rest c _ hml).mono ?_; rintro e w' ⟨rfl, rfl⟩)
        go_roundw
        case rel => exact ⟨xs ++ [rest.take m], rest.drop (m + 1), q, _, by simp, by simp [List.take_of_length_le], R, hos.1, by simpa using hst, hbel.grown hos.2 hbel.size (fun k hk => by simp at hk; omega)⟩
        case measure => simp [intOf]; omega

set_option maxHeartbeats 1000000 in
theorem splitN_any (s : Str) (c : UInt8) (N : Nat) (w : World) (hs : s.length + 1 < maxLen) (hN1 : 1 ≤ N) (hN2 : N ≤ 1000) :
    Calls Tryz.prog 123 #[SV s, SV [c], .int .i64 N] w fun e w' => ∃ v, e = .returned v ∧ w'.ownsRow w.heap.size 9 1 v (splitNL c (N - 1) s).length ((splitNL c (N - 1) s).map SV) ∧ Below w.heap.size w w' := by
  go_enter Tryz.func123, Tryz.ntmps123
  go_wp2_with (go_at_call 115; refine (genSplit_any s c N _ hs hN1 hN2).mono ?_; rintro e w' ⟨v, rfl, hown, hbel⟩)
  go_ret
  exact ⟨_, rfl, hown, hbel⟩

end Go.Proofs.YtdcbgfhkfmohiaaGreatDoor

/- Contracts of the program's path.go: isNameByte, isName, namesOf, begins. -/
namespace Go.Proofs.YtdcbgfhkfmohiaaGreatDoor
open Go.RowKit

set_option maxHeartbeats 1000000 in
theorem isNameByte_any (c : UInt8) (w : World) :
    Calls Tryz.prog 89 #[.int .u8 c.toNat] w fun e w' => e = .returned (.bool (okByte false c)) ∧ w' = w := by
  have hlt : c.toNat < 256 := c.toNat_lt
  generalize hb : okByte false c = b
  have hb2 : b = decide ((97 ≤ c.toNat ∧ c.toNat ≤ 122) ∨ (48 ≤ c.toNat ∧ c.toNat ≤ 57) ∨ c.toNat = 46) := by
    rw [← hb]; unfold okByte; simp [Bool.or_assoc]
  clear hb
  generalize c.toNat = n at *
  have HB : Hid _ := hb2
  clear hb2
  go_enter Tryz.func89, Tryz.ntmps89
  go_wp2
  all_goals
    go_ret
    refine ⟨ret_bool ?_, rfl⟩
    rw [HB.out, Bool.eq_iff_iff]
    simp
    omega

/-- The function f, given as a value, tells q of a byte, and nothing turns. -/
structure TellsByte (f : Nat) (q : UInt8 → Bool) : Prop where
  enters : ∀ args w, (callFunc f args).run Tryz.prog w = .ok (.enter f args) w
  calls : ∀ (c : UInt8) (w : World), Calls Tryz.prog f #[.int .u8 c.toNat] w fun e w' => e = .returned (.bool (q c)) ∧ w' = w

def madeOfL (q : UInt8 → Bool) (s : Str) : Bool := decide (1 ≤ s.length ∧ s.length ≤ 8) && s.all q

set_option maxHeartbeats 1000000 in
theorem isMadeOf_any (f : Nat) (q : UInt8 → Bool) (hf : TellsByte f q) (s : Str) (w : World) (hs : s.length ≤ maxLen) :
    Calls Tryz.prog 88 #[SV s, .func (.func f) #[] #[]] w fun e w' => e = .returned (.bool (madeOfL q s)) ∧ w' = w := by
  unfold maxLen at hs
  have hG := get_list
  have hF := hf.enters
  have hC := hf.calls
  clear hf
  by_cases h1 : (s.length : Int) < 1
  · have R : Hid (madeOfL q s = false) := by unfold madeOfL; rw [Hid, decide_eq_false (by omega)]; rfl
    go_enter Tryz.func88, Tryz.ntmps88
    go_wp2
    go_ret
    exact ⟨by rw [R.out]; rfl, rfl⟩
  by_cases h8 : (8 : Int) < s.length
  · have R : Hid (madeOfL q s = false) := by unfold madeOfL; rw [Hid, decide_eq_false (by omega)]; rfl
    go_enter Tryz.func88, Tryz.ntmps88
    go_wp2
    go_ret
    exact ⟨by rw [R.out]; rfl, rfl⟩
  have hin : Hid (decide (1 ≤ s.length ∧ s.length ≤ 8) = true) := decide_eq_true (by omega)
  go_enter Tryz.func88, Tryz.ntmps88
  go_wp2
  go_loop [16] (fun i => ∃ k : Nat, k ≤ s.length ∧ i = .int .i64 k ∧ ∀ j (hj : j < s.length), j < k → q s[j] = true) (fun i => s.length - (intOf i).toNat)
  case atStart => exact ⟨0, Nat.zero_le _, rfl, fun j _ h => by omega⟩
  case round =>
    obtain ⟨k, hk, rfl, hall⟩ := hrel
    by_cases hlt : k < s.length
    · have Ck := hC s[k]
      cases hb : q s[k]
      · have R : Hid (madeOfL q s = false) := by
          unfold madeOfL
          rw [Hid, show s.all q = false from List.all_eq_false.2 ⟨s[k], List.getElem_mem hlt, by simp [hb]⟩, Bool.and_false]
        rw [hb] at Ck
        clear hall hC
        go_wp2_with (refine (Ck _).mono ?_; rintro e w' ⟨rfl, rfl⟩)
        go_ret
        exact ⟨by rw [R.out]; rfl, rfl⟩
      · have R := all_step (f := q) hlt hall hb
        rw [hb] at Ck
        clear hall hC
        go_wp2_with (refine (Ck _).mono ?_; rintro e w' ⟨rfl, rfl⟩)
        go_round
        case rel => exact ⟨k + 1, by omega, by go_num, R⟩
        case measure => simp [intOf]; omega
    · have R : Hid (madeOfL q s = true) := by
        unfold madeOfL
        rw [Hid, hin.out, Bool.true_and, List.all_eq_true]
        intro x hx
        obtain ⟨j, hj, rfl⟩ := List.getElem_of_mem hx
        exact hall j hj (by omega)
      clear hall hC
      go_wp2
      go_ret
      exact ⟨by rw [R.out]; rfl, rfl⟩

theorem tells_nameByte : TellsByte 89 (okByte false) := ⟨enters_of Tryz.func89 (by kernel_rfl) rfl, isNameByte_any⟩

theorem isNameL_madeOf (s : Str) (b : Bool) : isNameL s b = madeOfL (okByte b) s := by
  by_cases h1 : (s.length : Int) < 1
  · rw [isNameL_short h1]; unfold madeOfL; rw [decide_eq_false (by omega)]; rfl
  by_cases h8 : (8 : Int) < s.length
  · rw [isNameL_long h8]; unfold madeOfL; rw [decide_eq_false (by omega)]; rfl
  have hin : decide (1 ≤ s.length ∧ s.length ≤ 8) = true := decide_eq_true (by omega)
  cases ha : s.all (okByte b)
  · obtain ⟨x, hx, hq⟩ := List.all_eq_false.1 ha
    obtain ⟨j, hj, rfl⟩ := List.getElem_of_mem hx
    rw [isNameL_bad hj (by simpa using hq)]; unfold madeOfL; rw [ha, Bool.and_false]
  · rw [isNameL_good (by omega) (by omega) (fun j hj => List.all_eq_true.1 ha _ (List.getElem_mem hj))]; unfold madeOfL; rw [ha, hin]; rfl

set_option maxHeartbeats 1000000 in
theorem prgIsName_any (s : Str) (w : World) (hs : s.length ≤ maxLen) :
    Calls Tryz.prog 58 #[SV s] w fun e w' => e = .returned (.bool (isNameL s false)) ∧ w' = w := by
  rw [isNameL_madeOf]
  have C := isMadeOf_any _ _ tells_nameByte s
  go_enter Tryz.func58, Tryz.ntmps58
  go_wp2_with (go_at_call 88; refine (C _ hs).mono ?_; rintro e w' ⟨rfl, rfl⟩)
  go_ret
  exact ⟨rfl, rfl⟩

/-- The slice v reads as these names. -/
def NamesAt (w : World) (v : Value) (xs : List Str) : Prop :=
  ∃ ao cap, v = .slice ao xs.length cap ∧ xs.length ≤ cap ∧ cap ≤ maxLen ∧ ∀ k (h : k < xs.length), ∃ g o, ao = some ⟨g, o, none⟩ ∧ g < w.heap.size ∧ w.cell? ⟨g, o + k, none⟩ = some (SV xs[k])

theorem names_of_row {w : World} {base : Nat} {v : Value} {n : Nat} {xs : List Str} (h : w.ownsRow base 9 1 v n (xs.map SV)) : NamesAt w v xs := by
  rcases strs_cells h with ⟨rfl, rfl, rfl⟩ | ⟨g, cap, rfl, rfl, hg, hgb, hc, hm, hp⟩
  · exact ⟨none, 0, rfl, by simp, by unfold maxLen; omega, fun k hk => by simp at hk⟩
  · exact ⟨_, cap, rfl, hc, hm, fun k hk => ⟨g, 0, rfl, hg, by rw [Nat.zero_add]; exact hp k hk⟩⟩
theorem names_below {w w' : World} {B : Nat} {v : Value} {xs : List Str} (h : NamesAt w v xs) (hb : Below B w w') (hB : w.heap.size ≤ B) : NamesAt w' v xs := by
  obtain ⟨ao, cap, h1, h2, h3, h4⟩ := h
  refine ⟨ao, cap, h1, h2, h3, fun k hk => ?_⟩
  obtain ⟨g, o, h5, h6, h7⟩ := h4 k hk
  have := hb.size
  exact ⟨g, o, h5, by omega, (hb.cell (p := ⟨g, o + k, none⟩) (by simp only; omega)).trans h7⟩

theorem isPathL_of {p : Str} (h1 : (splitL 47 p).length ≤ 5) (h2 : ∀ j (hj : j < (splitL 47 p).length), isNameL (splitL 47 p)[j] false = true) : isPathL p = true := by
  have ha : ∀ x ∈ splitL 47 p, isNameL x false = true := by
    intro x hx; obtain ⟨j, hj, rfl⟩ := List.getElem_of_mem hx; exact h2 j hj
  have h3 := splitL_total 47 p
  have h4 := sum_le (l := splitL 47 p) (m := 8) (fun x hx => (isNameL_len (ha x hx)).2)
  unfold isPathL
  have : (splitL 47 p).all (fun x => isNameL x false) = true := by rw [List.all_eq_true]; exact ha
  simp [this, h1]; omega

/-- The function f, given as a value, tells q of a text, and nothing turns. -/
structure TellsText (f : Nat) (q : Str → Bool) : Prop where
  enters : ∀ args w, (callFunc f args).run Tryz.prog w = .ok (.enter f args) w
  calls : ∀ (s : Str) (w : World), s.length ≤ maxLen → Calls Tryz.prog f #[SV s] w fun e w' => e = .returned (.bool (q s)) ∧ w' = w

def piecesL (q : Str → Bool) (p : Str) : Bool := decide ((splitL 47 p).length ≤ 5) && (splitL 47 p).all q

def PiecesOut (w : World) (q : Str → Bool) (p : Str) (e : Ending) (w' : World) : Prop :=
  Below w.heap.size w w' ∧ ((piecesL q p = false ∧ e = .returned (.slice none 0 0)) ∨ (piecesL q p = true ∧ ∃ a n c, e = .returned (.slice (some a) n c) ∧ NamesAt w' (.slice (some a) n c) (splitL 47 p)))

/-- The same, with where the pieces lie. -/
def PiecesOwn (w : World) (q : Str → Bool) (p : Str) (e : Ending) (w' : World) : Prop :=
  Below w.heap.size w w' ∧ ((piecesL q p = false ∧ e = .returned (.slice none 0 0)) ∨ (piecesL q p = true ∧ ∃ g n c, e = .returned (.slice (some ⟨g, 0, none⟩) n c) ∧ w.heap.size ≤ g ∧ NamesAt w' (.slice (some ⟨g, 0, none⟩) n c) (splitL 47 p)))
theorem PiecesOwn.out {w w' : World} {q : Str → Bool} {p : Str} {e : Ending} (h : PiecesOwn w q p e w') : PiecesOut w q p e w' := by
  obtain ⟨h1, h2 | ⟨h2, g, n, c, h3, _, h4⟩⟩ := h
  · exact ⟨h1, .inl h2⟩
  · exact ⟨h1, .inr ⟨h2, _, n, c, h3, h4⟩⟩

set_option maxHeartbeats 1000000 in
theorem pieces_in (f : Nat) (q : Str → Bool) (p : Str) (w : World) (hF : ∀ args w, (callFunc f args).run Tryz.prog w = .ok (.enter f args) w) (hC : ∀ (s : Str) (W : World), Below w.heap.size w W → s.length ≤ maxLen → Calls Tryz.prog f #[SV s] W fun e w' => e = .returned (.bool (q s)) ∧ w' = W) (hp : p.length + 1 < maxLen) :
    Calls Tryz.prog 90 #[SV p, .func (.func f) #[] #[]] w fun e w' => PiecesOwn w q p e w' := by
  go_enter Tryz.func90, Tryz.ntmps90
  go_wp2_with fail
  refine (splitN_any p 47 6 _ hp (by omega) (by omega)).mono ?_
  rintro e w1 ⟨v1, rfl, hown1, hbel1⟩
  have hl5 := splitNL_len 47 5 p
  by_cases h5 : (splitL 47 p).length ≤ 5
  · have hall := splitNL_all (c := 47) (n := 5) (s := p) (by omega)
    have hne := splitL_ne 47 p
    have hpc := splitL_piece 47 p
    simp only [show 6 - 1 = 5 from rfl] at hown1
    rw [hall] at hown1
    have hN := names_of_row hown1
    rcases strs_cells hown1 with ⟨rfl, h0, h2⟩ | ⟨g, cap, rfl, hn, hg, hgb, hcap, hm, hcell⟩
    · exact absurd h2 hne
    clear hown1 hl5 hall hn
    have Hok : Hid (∀ (_ : ∀ j (hj : j < (splitL 47 p).length), q (splitL 47 p)[j] = true), piecesL q p = true) := fun h => by
      unfold piecesL
      rw [decide_eq_true h5, Bool.true_and, List.all_eq_true]
      intro x hx; obtain ⟨j, hj, rfl⟩ := List.getElem_of_mem hx; exact h j hj
    have Hbad : Hid (∀ k (hk : k < (splitL 47 p).length), q (splitL 47 p)[k] = false → piecesL q p = false) := fun k hk h => by
      unfold piecesL
      rw [show (splitL 47 p).all q = false from List.all_eq_false.2 ⟨_, List.getElem_mem hk, by simp [h]⟩, Bool.and_false]
    have HN : Hid (NamesAt w1 (.slice (some ⟨g, 0, none⟩) (splitL 47 p).length cap) (splitL 47 p)) := hN
    clear hN
    generalize hxs : splitL 47 p = xs at *
    have Hxs : Hid _ := hxs
    clear hxs
    unfold maxLen at hm
    go_wp2
    go_loop [15] (fun i => ∃ k : Nat, k ≤ xs.length ∧ i = .int .i64 k ∧ ∀ j (hj : j < xs.length), j < k → q xs[j] = true) (fun i => xs.length - (intOf i).toNat)
    case atStart => exact ⟨0, Nat.zero_le _, rfl, fun j _ h => by omega⟩
    case round =>
      obtain ⟨k, hk, rfl, hall⟩ := hrel
      by_cases hlt : k < xs.length
      · have hkl := hpc xs[k] (List.getElem_mem hlt)
        have hml : xs[k].length ≤ maxLen := by omega
        have Ck := hC xs[k] w1 hbel1 hml
        cases he : q xs[k]
        · have R : Hid _ := Hbad.out k hlt he
          rw [he] at Ck
          clear hall hC
          go_wp2_with (refine Ck.mono ?_; rintro e w' ⟨rfl, rfl⟩)
          go_ret
          exact ⟨hbel1, .inl ⟨R.out, rfl⟩⟩
        · have R := str_step (q := q) hlt hall he
          rw [he] at Ck
          clear hall hC
          go_wp2_with (refine Ck.mono ?_; rintro e w' ⟨rfl, rfl⟩)
          go_round
          case rel => exact ⟨k + 1, by omega, by go_num, R⟩
          case measure => simp [intOf]; omega
      · have R : Hid _ := Hok.out (fun j hj => hall j hj (by omega))
        clear hall hC
        go_wp2
        go_ret
        exact ⟨hbel1, .inr ⟨R.out, _, _, _, rfl, hgb, by rw [Hxs.out]; exact HN.out⟩⟩
  · have h6 : (splitNL 47 5 p).length = 6 := by
      by_cases h : (splitL 47 p).length ≤ 6
      · rw [splitNL_all h]; omega
      · exact splitNL_many (by omega)
    have hfl : piecesL q p = false := by unfold piecesL; simp [h5]
    simp only [show 6 - 1 = 5 from rfl] at hown1
    rw [h6] at hown1
    obtain ⟨ao, cap, rfl⟩ := row_form hown1
    have HF : Hid _ := hfl
    clear hfl h6 hown1 hl5 hC
    go_wp2
    go_ret
    exact ⟨hbel1, .inl ⟨HF.out, rfl⟩⟩

theorem tells_isName : TellsText 58 (fun s => isNameL s false) := ⟨enters_of Tryz.func58 (by kernel_rfl) rfl, prgIsName_any⟩

theorem isPathL_pieces (p : Str) : isPathL p = piecesL (fun s => isNameL s false) p := by
  by_cases h5 : (splitL 47 p).length ≤ 5
  · cases ha : (splitL 47 p).all fun s => isNameL s false
    · obtain ⟨x, hx, hq⟩ := List.all_eq_false.1 ha
      obtain ⟨j, hj, rfl⟩ := List.getElem_of_mem hx
      rw [isPathL_bad hj (by simpa using hq)]; unfold piecesL; rw [ha, Bool.and_false]
    · rw [isPathL_of h5 (fun j hj => List.all_eq_true.1 ha _ (List.getElem_mem hj))]; unfold piecesL; rw [ha, decide_eq_true h5]; rfl
  · have h1 : isPathL p = false := by unfold isPathL; simp [h5]
    rw [h1]; unfold piecesL; rw [decide_eq_false h5]; rfl

def NamesOut (w : World) (p : Str) (e : Ending) (w' : World) : Prop :=
  Below w.heap.size w w' ∧ ((isPathL p = false ∧ e = .returned (.slice none 0 0)) ∨ (isPathL p = true ∧ ∃ a n c, e = .returned (.slice (some a) n c) ∧ NamesAt w' (.slice (some a) n c) (splitL 47 p)))

def NamesOwn (w : World) (p : Str) (e : Ending) (w' : World) : Prop :=
  Below w.heap.size w w' ∧ ((isPathL p = false ∧ e = .returned (.slice none 0 0)) ∨ (isPathL p = true ∧ ∃ g n c, e = .returned (.slice (some ⟨g, 0, none⟩) n c) ∧ w.heap.size ≤ g ∧ NamesAt w' (.slice (some ⟨g, 0, none⟩) n c) (splitL 47 p)))
theorem NamesOwn.out {w w' : World} {p : Str} {e : Ending} (h : NamesOwn w p e w') : NamesOut w p e w' := by
  obtain ⟨h1, h2 | ⟨h2, g, n, c, h3, _, h4⟩⟩ := h
  · exact ⟨h1, .inl h2⟩
  · exact ⟨h1, .inr ⟨h2, _, n, c, h3, h4⟩⟩

set_option maxHeartbeats 1000000 in
theorem namesOf_own (p : Str) (w : World) (hp : p.length + 1 < maxLen) :
    Calls Tryz.prog 61 #[SV p] w fun e w' => NamesOwn w p e w' := by
  have C := pieces_in _ _ p w tells_isName.enters (fun s W _ hs => tells_isName.calls s W hs) hp
  have HN : Hid (∀ e w', PiecesOwn w (fun s => isNameL s false) p e w' → NamesOwn w p e w') := fun e w' h => by
    unfold PiecesOwn at h
    rw [← isPathL_pieces] at h
    exact h
  go_enter Tryz.func61, Tryz.ntmps61
  go_wp2_with (go_at_call 90; refine C.mono ?_)
  intro e w1 h1
  have h2 := HN.out e w1 h1
  obtain ⟨hb, ⟨hp0, rfl⟩ | ⟨hp1, g, n, c, rfl, hg, hn⟩⟩ := h2
  · have HR : Hid (NamesOwn w p (.returned (.slice none 0 0)) w1) := ⟨hb, .inl ⟨hp0, rfl⟩⟩
    clear h1 hp0
    go_wp2
    go_ret
    exact HR.out
  · have HR : Hid (NamesOwn w p (.returned (.slice (some ⟨g, 0, none⟩) n c)) w1) := ⟨hb, .inr ⟨hp1, g, n, c, rfl, hg, hn⟩⟩
    clear h1 hp1 hn
    go_wp2
    go_ret
    exact HR.out
theorem namesOf_any (p : Str) (w : World) (hp : p.length + 1 < maxLen) :
    Calls Tryz.prog 61 #[SV p] w fun e w' => NamesOut w p e w' := (namesOf_own p w hp).mono fun _ _ h => h.out

/-- The names of one path begin those of the other. -/
def beginsL (a b : List Str) : Bool := decide (a = b.take (min a.length b.length))

set_option maxHeartbeats 1000000 in
theorem equal_any (a b : List Str) (va vb : Value) (w : World) (ha : NamesAt w va a) (hb : NamesAt w vb b) :
    Calls Tryz.prog 95 #[va, vb] w fun e w' => e = .returned (.bool (decide (a = b))) ∧ Below w.heap.size w w' := by
  obtain ⟨ao, ca, rfl, hac, ham, hacell⟩ := ha
  obtain ⟨bo, cb, rfl, hbc, hbm, hbcell⟩ := hb
  unfold maxLen at ham hbm
  cases hl : ((a.length : Int) == (b.length : Int))
  · have R : Hid (decide (a = b) = false) := by rw [Hid, decide_eq_false_iff_not]; intro e; rw [e] at hl; simp at hl
    go_enter Tryz.func95, Tryz.ntmps95
    go_wp2
    go_ret
    exact ⟨by rw [R.out]; rfl, Below.refl _ _⟩
  · have hle : a.length = b.length := by simp at hl; omega
    have Hle : Hid _ := hle
    have hl1 : a.length ≤ b.length := by omega
    have hl2 : b.length ≤ a.length := by omega
    clear hle
    go_enter Tryz.func95, Tryz.ntmps95
    go_wp2
    go_loopw [13] (fun i wr => ∃ k n : Nat, k ≤ a.length ∧ i = .int .i64 k ∧ wr = w.drewN n ∧ a.take k = b.take k) (fun i _ => a.length - (intOf i).toNat)
    case atStart => exact ⟨0, 0, Nat.zero_le _, rfl, rfl, rfl⟩
    case round =>
      obtain ⟨k, n, hk, rfl, rfl, hst⟩ := hrel
      have Hst : Hid _ := hst
      clear hst
      by_cases hlt : k < a.length
      · have hltb : k < b.length := by omega
        obtain ⟨g1, o1, rfl, hg1, hc1⟩ := hacell k hlt
        obtain ⟨g2, o2, rfl, hg2, hc2⟩ := hbcell k hltb
        clear hacell hbcell
        cases he : (a[k] == b[k])
        · have hne : (a[k] != b[k]) = true := by simp at he ⊢; exact he
          have R : Hid (decide (a = b) = false) := by
            rw [Hid, decide_eq_false_iff_not]; intro e; subst e; simp at he
          go_wp2
          go_quiet (fail)
          go_wp2
          go_ret
          exact ⟨by rw [R.out]; rfl, below_drewN (below_drewN (Below.refl _ _) _) _⟩
        · have hne : (a[k] != b[k]) = false := by simp at he ⊢; exact he
          have R : Hid (a.take (k + 1) = b.take (k + 1)) := by
            simp at he
            rw [Hid, List.take_succ_eq_append_getElem hlt, List.take_succ_eq_append_getElem hltb, Hst.out, he]
          have he2 : a[k] = b[k] := by simpa using he
          rw [he2] at hc1
          clear he hne he2
          go_wp2
          go_quiet (fail)
          go_wp2
          go_roundw
          case rel => exact ⟨k + 1, _, by omega, by go_num, rfl, R.out⟩
          case measure => simp [intOf]; omega
      · have R : Hid (decide (a = b) = true) := by
          have h := Hst.out
          rw [List.take_of_length_le (by omega), List.take_of_length_le (by omega)] at h
          rw [Hid, decide_eq_true h]
        clear hacell hbcell
        go_wp2
        go_ret
        exact ⟨by rw [R.out]; rfl, below_drewN (Below.refl _ _) _⟩

end Go.Proofs.YtdcbgfhkfmohiaaGreatDoor

/- Contracts of the program: begins; nodes in memory. -/
namespace Go.Proofs.YtdcbgfhkfmohiaaGreatDoor
open Go.RowKit

theorem names_take {w : World} {ao : Option Addr} {cap m : Nat} {xs : List Str} (h : NamesAt w (.slice ao xs.length cap) xs) (hm : m ≤ xs.length) : NamesAt w (.slice ao m cap) (xs.take m) := by
  obtain ⟨ao', cap', h1, h2, h3, h4⟩ := h
  simp only [Value.slice.injEq] at h1
  obtain ⟨rfl, _, rfl⟩ := h1
  have hl : (xs.take m).length = m := by simp; omega
  refine ⟨ao, cap, by rw [hl], by omega, h3, fun k hk => ?_⟩
  obtain ⟨g, o, h5, h6, h7⟩ := h4 k (by omega)
  exact ⟨g, o, h5, h6, by rw [List.getElem_take]; exact h7⟩

theorem names_form {w : World} {v : Value} {xs : List Str} (h : NamesAt w v xs) : ∃ ao cap, v = .slice ao xs.length cap ∧ xs.length ≤ cap ∧ cap ≤ maxLen := by
  obtain ⟨ao, cap, h1, h2, h3, _⟩ := h
  exact ⟨ao, cap, h1, h2, h3⟩

set_option maxHeartbeats 1000000 in
theorem begins_any (a b : List Str) (va vb : Value) (w : World) (ha : NamesAt w va a) (hb : NamesAt w vb b) :
    Calls Tryz.prog 65 #[va, vb] w fun e w' => e = .returned (.bool (beginsL a b)) ∧ Below w.heap.size w w' := by
  obtain ⟨ao, ca, rfl, hac, ham⟩ := names_form ha
  obtain ⟨bo, cb, rfl, hbc, hbm⟩ := names_form hb
  unfold maxLen at ham hbm
  by_cases hle : a.length ≤ b.length
  · have hT := names_take hb hle
    have R : Hid (beginsL a b = decide (a = b.take a.length)) := by rw [Hid, beginsL, Nat.min_eq_left hle]
    have hmin : min (a.length : Int) (b.length : Int) = a.length := by omega
    go_enter Tryz.func65, Tryz.ntmps65
    go_wp2_with fail
    refine (equal_any a (b.take a.length) _ _ _ ha hT).mono ?_
    rintro e w' ⟨rfl, hbel⟩
    go_wp2
    go_ret
    exact ⟨by rw [R.out]; rfl, hbel⟩
  · have hT := names_take hb (Nat.le_refl _)
    rw [List.take_length] at hT
    have R : Hid (beginsL a b = decide (a = b)) := by rw [Hid, beginsL, Nat.min_eq_right (by omega), List.take_length]
    have hmin : min (a.length : Int) (b.length : Int) = b.length := by omega
    go_enter Tryz.func65, Tryz.ntmps65
    go_wp2_with fail
    refine (equal_any a b _ _ _ ha hT).mono ?_
    rintro e w' ⟨rfl, hbel⟩
    go_wp2
    go_ret
    exact ⟨by rw [R.out]; rfl, hbel⟩

end Go.Proofs.YtdcbgfhkfmohiaaGreatDoor
