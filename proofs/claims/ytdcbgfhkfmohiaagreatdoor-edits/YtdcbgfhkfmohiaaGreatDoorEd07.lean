/- Contracts of the library's strings.SplitN at one byte. -/
import Derived.Test.YtdcbgfhkfmohiaaGreatDoorEd06
import Derived.Shelf.Abstract
namespace Go.Proofs.YtdcbgfhkfmohiaaGreatDoor
open Go.RowKit

/-- n pieces at most are cut where n is no less than the text is long. -/
theorem splitNL_min (c : UInt8) (n : Nat) (s : Str) : splitNL c (min n s.length) s = splitNL c n s := by
  by_cases h : n ≤ s.length
  · rw [Nat.min_eq_left h]
  · have h1 := splitL_len c s
    rw [Nat.min_eq_right (by omega), splitNL_all h1, splitNL_all (by omega)]

/-- The list that is handed back: the pieces, and the rest in its place. -/
theorem cut_end {w w' : World} {n : Nat} {zs : List Value} {xs ps : List Str} {rest : Str} (hx : xs.length ≤ n) (htk : (zs.set xs.length (SV rest)).take (xs.length + 1) = (xs ++ [rest]).map SV) (hb : Below w.heap.size w w') (he : xs ++ [rest] = ps) (hrow : ∀ m, m ≤ n + 1 → (w'.setCell ⟨w.heap.size, xs.length, none⟩ (SV rest)).ownsRow w.heap.size 9 1 (.slice (some ⟨w.heap.size, 0, none⟩) m (n + 1)) m ((zs.set xs.length (SV rest)).take (m * 1))) :
    ∃ v, Ending.returned (.slice (some ⟨w.heap.size, 0, none⟩) (xs.length + 1) (n + 1)) = .returned v ∧ (w'.setCell ⟨w.heap.size, xs.length, none⟩ (SV rest)).ownsRow w.heap.size 9 1 v ps.length (ps.map SV) ∧ Below w.heap.size w (w'.setCell ⟨w.heap.size, xs.length, none⟩ (SV rest)) := by
  subst he
  refine ⟨_, rfl, ?_, hb.setCell (Nat.le_refl _) _⟩
  have h1 := hrow (xs.length + 1) (by omega)
  rw [Nat.mul_one, htk] at h1
  simpa using h1

/-- After some cuts: the pieces, and what is left; q more may be cut. -/
structure CutAt (c : UInt8) (n : Nat) (s : Str) (xs : List Str) (rest : Str) (q : Nat) : Prop where
  cnt : xs.length + q = n
  eq : xs ++ splitNL c q rest = splitNL c n s
  len : rest.length ≤ s.length

theorem CutAt.step {c : UInt8} {n : Nat} {s : Str} {xs : List Str} {rest : Str} {q m : Nat} (h : CutAt c n s xs rest (q + 1)) (hm : Lib.indexByte rest c = m) : CutAt c n s (xs ++ [rest.take m]) (rest.drop (m + 1)) q := by
  refine ⟨by have := h.cnt; simp; omega, ?_, by have := h.len; simp; omega⟩
  rw [← h.eq, splitNL, hm, if_neg (by omega)]; simp

theorem CutAt.ends {c : UInt8} {n : Nat} {s : Str} {xs : List Str} {rest : Str} {q : Nat} (h : CutAt c n s xs rest q) (hm : q = 0 ∨ Lib.indexByte rest c < 0) : xs ++ [rest] = splitNL c n s := by
  rw [← h.eq]
  cases q with
  | zero => rfl
  | succ q => rw [splitNL, if_pos (by omega)]

theorem row_take {w : World} {base : Nat} {e : TypeId} {size n m : Nat} {g cap : Nat} {xs : List Value} (h : w.ownsRow base e size (.slice (some ⟨g, 0, none⟩) n cap) n xs) (hm : m ≤ n) : w.ownsRow base e size (.slice (some ⟨g, 0, none⟩) m cap) m (xs.take (m * size)) := by
  refine ⟨by rw [List.length_take, h.1]; exact Nat.min_eq_left (Nat.mul_le_mul_right _ hm), .inr ?_⟩
  rcases h.2 with ⟨h', _⟩ | ⟨g', cap', cur, h', hb, hg, hnc, hcm, hcs, htake⟩
  · simp at h'
  · simp at h'
    obtain ⟨rfl, rfl⟩ := h'
    refine ⟨g, cap, cur, rfl, hb, hg, by omega, hcm, hcs, ?_⟩
    rw [← htake, List.take_take, Nat.min_eq_left (Nat.mul_le_mul_right _ hm)]

theorem set_take {zs : List Value} {xs : List Str} {i : Nat} {t : Str} (hl : i < zs.length) (h : zs.take i = xs.map SV) : (zs.set i (SV t)).take (i + 1) = (xs ++ [t]).map SV := by
  rw [List.take_succ_eq_append_getElem (by simpa using hl), List.take_set_of_le (Nat.le_refl _), h]; simp

set_option maxHeartbeats 2000000 in
set_option maxRecDepth 100000 in
theorem genSplit_any (s : Str) (c : UInt8) (N : Nat) (w : World) (hs : s.length + 1 < maxLen) (hN1 : 1 ≤ N) (hN2 : N ≤ 1000) :
    Calls Tryz.prog 115 #[SV s, SV [c], .int .i64 0, .int .i64 N] w fun e w' => ∃ v, e = .returned v ∧ w'.ownsRow w.heap.size 9 1 v (splitNL c (N - 1) s).length ((splitNL c (N - 1) s).map SV) ∧ Below w.heap.size w w' := by
  obtain ⟨i0, hi, hz0, hz1, hz2⟩ := info_parts Tryz.infoStr
  unfold maxLen at hs
  have hX := extract_list
  have h0 : ((N : Int) == 0) = false := by simp; omega
  obtain ⟨n, hn⟩ : ∃ n, n = min (N - 1) s.length := ⟨_, rfl⟩
  have Hn : Hid (splitNL c n s = splitNL c (N - 1) s) := by rw [Hid, hn, splitNL_min]
  have hmin : (min (N : Int) ((s.length : Int) + 1)) = (n : Int) + 1 := by omega
  have hn1 : n ≤ 1000 := by omega
  have hn2 : n ≤ s.length := by omega
  have HM : Hid _ := hmin
  clear hn hmin
  go_enter Tryz.func115, Tryz.ntmps115
  go_wp2_with (at_make; go_loud (refine wpList_make_full _ rfl (.tmp 30) (.tmp 30) 48 rfl w.heap.size 9 i0 _ 1 Tryz.underlying48 hi hz0 hz1 _ _ _ _ (n + 1) rfl rfl ?_ ?_ ?_ ?_ ?_ ?_))
  · rw [HM.out]; omega
  · rw [HM.out]; omega
  · rw [hz2]; omega
  · unfold maxLen; omega
  · exact Nat.le_refl _
  intro w1 hown1 hg1
  have hb1 : Below w.heap.size w w1 := (Below.refl _ _).grown hg1 (Nat.le_refl _) (fun k hk => by simp at hk)
  obtain ⟨zs0, hzs⟩ : ∃ zs0, w1.ownsRow w.heap.size 9 1 (.slice (some ⟨w.heap.size, 0, none⟩) (n + 1) (n + 1)) (n + 1) zs0 := ⟨_, hown1⟩
  clear hown1 hg1
  have hmin := HM.out
  go_wp2
  clear hmin
  go_loopw [0, 10, 11] (fun sv i _ wr => ∃ (xs : List Str) (rest : Str) (q : Nat) (zs : List Value), i = .int .i64 xs.length ∧ sv = SV rest ∧ CutAt c n s xs rest q ∧ wr.ownsRow w.heap.size 9 1 (.slice (some ⟨w.heap.size, 0, none⟩) (n + 1) (n + 1)) (n + 1) zs ∧ zs.take xs.length = xs.map SV ∧ Below w.heap.size w wr) (fun _ i _ _ => n - (intOf i).toNat)
  case atStart => exact ⟨[], s, n, zs0, rfl, rfl, ⟨by simp, rfl, Nat.le_refl _⟩, hzs, by simp, hb1⟩
  case round =>
    clear hzs hb1
    obtain ⟨xs, rest, q, zs, rfl, rfl, hC, hown, htk, hbel⟩ := hrel
    have hcnt := hC.cnt
    have hrl := hC.len
    have hzl : zs.length = n + 1 := by have := hown.1; omega
    have hcell := hown.cellAt xs.length (by omega)
    have hfz := hown.frozenAt xs.length
    obtain ⟨u0, hu0⟩ : ∃ u, zs[xs.length]? = some u := ⟨_, List.getElem?_eq_getElem (by omega)⟩
    rw [hu0] at hcell
    have hml : rest.length ≤ maxLen := by unfold maxLen; omega
    have hge := Lib.indexByte_ge rest c
    cases q with
    | zero =>
      have R : Hid _ := hC.ends (.inl rfl)
      have hxn : n ≤ xs.length := by omega
      have hst := set_take (t := rest) (by omega) htk
      have hos := hown.stored xs.length (SV rest)
      clear hC
      go_wp2
      go_ret
      rw [← Hn.out]
      exact cut_end (by omega) hst hbel R.out (fun m hm => row_take hos.1 hm)
    | succ q =>
      have hxn : xs.length < n := by omega
      by_cases hneg : Lib.indexByte rest c < 0
      · have R : Hid _ := hC.ends (.inr hneg)
        have hst := set_take (t := rest) (by omega) htk
        have hos := hown.stored xs.length (SV rest)
        clear hC
        go_wp2_with (go_at_call 147; refine (index_any rest c _ hml).mono ?_; rintro e w' ⟨rfl, rfl⟩)
        go_ret
        rw [← Hn.out]
        exact cut_end (by omega) hst hbel R.out (fun m hm => row_take hos.1 hm)
      · obtain ⟨m, hm⟩ := Int.eq_ofNat_of_zero_le (show 0 ≤ Lib.indexByte rest c by omega)
        have R := hC.step hm
        have hsp := (indexByte_split hm).1
        have hst := set_take (t := rest.take m) (by omega) htk
        have hos := hown.stored xs.length (SV (rest.take m))
        clear hC
        go_wp2_with (go_at_call 147; refine (index_any rest c _ hml).mono ?_; rintro e w' ⟨rfl, rfl⟩)
        go_roundw
        case rel => exact ⟨xs ++ [rest.take m], rest.drop (m + 1), q, _, by simp, by simp [List.take_of_length_le], R, hos.1, by simpa using hst, hbel.grown hos.2 hbel.size (fun k hk => by simp at hk; omega)⟩
        case measure => simp [intOf]; omega

set_option maxHeartbeats 1000000 in
theorem splitN_any (s : Str) (c : UInt8) (N : Nat) (w : World) (hs : s.length + 1 < maxLen) (hN1 : 1 ≤ N) (hN2 : N ≤ 1000) :
    Calls Tryz.prog 123 #[SV s, SV [c], .int .i64 N] w fun e w' => ∃ v, e = .returned v ∧ w'.ownsRow w.heap.size 9 1 v (splitNL c (N - 1) s).length ((splitNL c (N - 1) s).map SV) ∧ Below w.heap.size w w' := by
  go_enter Tryz.func123, Tryz.ntmps123
  go_wp2_with (go_at_call 115; refine (genSplit_any s c N _ hs hN1 hN2).mono ?_; rintro e w' ⟨v, rfl, hown, hbel⟩)
  go_ret
  exact ⟨_, rfl, hown, hbel⟩

end Go.Proofs.YtdcbgfhkfmohiaaGreatDoor

/- Contracts of the program's path.go: isNameByte, isName, namesOf, begins. -/
namespace Go.Proofs.YtdcbgfhkfmohiaaGreatDoor
open Go.RowKit

set_option maxHeartbeats 1000000 in
theorem isNameByte_any (c : UInt8) (w : World) :
    Calls Tryz.prog 89 #[.int .u8 c.toNat] w fun e w' => e = .returned (.bool (okByte false c)) ∧ w' = w := by
  have hlt : c.toNat < 256 := c.toNat_lt
  generalize hb : okByte false c = b
  have hb2 : b = decide ((97 ≤ c.toNat ∧ c.toNat ≤ 122) ∨ (48 ≤ c.toNat ∧ c.toNat ≤ 57) ∨ c.toNat = 46) := by
    rw [← hb]; unfold okByte; simp [Bool.or_assoc]
  clear hb
  generalize c.toNat = n at *
  have HB : Hid _ := hb2
  clear hb2
  go_enter Tryz.func89, Tryz.ntmps89
  go_wp2
  all_goals
    go_ret
    refine ⟨ret_bool ?_, rfl⟩
    rw [HB.out, Bool.eq_iff_iff]
    simp
    omega

/-- The function f, given as a value, tells q of a byte, and nothing turns. -/
structure TellsByte (f : Nat) (q : UInt8 → Bool) : Prop where
  enters : ∀ args w, (callFunc f args).run Tryz.prog w = .ok (.enter f args) w
  calls : ∀ (c : UInt8) (w : World), Calls Tryz.prog f #[.int .u8 c.toNat] w fun e w' => e = .returned (.bool (q c)) ∧ w' = w

def madeOfL (q : UInt8 → Bool) (s : Str) : Bool := decide (1 ≤ s.length ∧ s.length ≤ 8) && s.all q

set_option maxHeartbeats 1000000 in
theorem isMadeOf_any (f : Nat) (q : UInt8 → Bool) (hf : TellsByte f q) (s : Str) (w : World) (hs : s.length ≤ maxLen) :
    Calls Tryz.prog 88 #[SV s, .func (.func f) #[] #[]] w fun e w' => e = .returned (.bool (madeOfL q s)) ∧ w' = w := by
  unfold maxLen at hs
  have hG := get_list
  have hF := hf.enters
  have hC := hf.calls
  clear hf
  by_cases h1 : (s.length : Int) < 1
  · have R : Hid (madeOfL q s = false) := by unfold madeOfL; rw [Hid, decide_eq_false (by omega)]; rfl
    go_enter Tryz.func88, Tryz.ntmps88
    go_wp2
    go_ret
    exact ⟨by rw [R.out]; rfl, rfl⟩
  by_cases h8 : (8 : Int) < s.length
  · have R : Hid (madeOfL q s = false) := by unfold madeOfL; rw [Hid, decide_eq_false (by omega)]; rfl
    go_enter Tryz.func88, Tryz.ntmps88
    go_wp2
    go_ret
    exact ⟨by rw [R.out]; rfl, rfl⟩
  have hin : Hid (decide (1 ≤ s.length ∧ s.length ≤ 8) = true) := decide_eq_true (by omega)
  go_enter Tryz.func88, Tryz.ntmps88
  go_wp2
  go_loop [16] (fun i => ∃ k : Nat, k ≤ s.length ∧ i = .int .i64 k ∧ ∀ j (hj : j < s.length), j < k → q s[j] = true) (fun i => s.length - (intOf i).toNat)
  case atStart => exact ⟨0, Nat.zero_le _, rfl, fun j _ h => by omega⟩
  case round =>
    obtain ⟨k, hk, rfl, hall⟩ := hrel
    by_cases hlt : k < s.length
    · have Ck := hC s[k]
      cases hb : q s[k]
      · have R : Hid (madeOfL q s = false) := by
          unfold madeOfL
          rw [Hid, show s.all q = false from List.all_eq_false.2 ⟨s[k], List.getElem_mem hlt, by simp [hb]⟩, Bool.and_false]
        rw [hb] at Ck
        clear hall hC
        go_wp2_with (refine (Ck _).mono ?_; rintro e w' ⟨rfl, rfl⟩)
        go_ret
        exact ⟨by rw [R.out]; rfl, rfl⟩
      · have R := all_step (f := q) hlt hall hb
        rw [hb] at Ck
        clear hall hC
        go_wp2_with (refine (Ck _).mono ?_; rintro e w' ⟨rfl, rfl⟩)
        go_round
        case rel => exact ⟨k + 1, by omega, by go_num, R⟩
        case measure => simp [intOf]; omega
    · have R : Hid (madeOfL q s = true) := by
        unfold madeOfL
        rw [Hid, hin.out, Bool.true_and, List.all_eq_true]
        intro x hx
        obtain ⟨j, hj, rfl⟩ := List.getElem_of_mem hx
        exact hall j hj (by omega)
      clear hall hC
      go_wp2
      go_ret
      exact ⟨by rw [R.out]; rfl, rfl⟩

theorem tells_nameByte : TellsByte 89 (okByte false) := ⟨enters_of Tryz.func89 (by kernel_rfl) rfl, isNameByte_any⟩

theorem isNameL_madeOf (s : Str) (b : Bool) : isNameL s b = madeOfL (okByte b) s := by
  by_cases h1 : (s.length : Int) < 1
  · rw [isNameL_short h1]; unfold madeOfL; rw [decide_eq_false (by omega)]; rfl
  by_cases h8 : (8 : Int) < s.length
  · rw [isNameL_long h8]; unfold madeOfL; rw [decide_eq_false (by omega)]; rfl
  have hin : decide (1 ≤ s.length ∧ s.length ≤ 8) = true := decide_eq_true (by omega)
  cases ha : s.all (okByte b)
  · obtain ⟨x, hx, hq⟩ := List.all_eq_false.1 ha
    obtain ⟨j, hj, rfl⟩ := List.getElem_of_mem hx
    rw [isNameL_bad hj (by simpa using hq)]; unfold madeOfL; rw [ha, Bool.and_false]
  · rw [isNameL_good (by omega) (by omega) (fun j hj => List.all_eq_true.1 ha _ (List.getElem_mem hj))]; unfold madeOfL; rw [ha, hin]; rfl

set_option maxHeartbeats 1000000 in
theorem prgIsName_any (s : Str) (w : World) (hs : s.length ≤ maxLen) :
    Calls Tryz.prog 58 #[SV s] w fun e w' => e = .returned (.bool (isNameL s false)) ∧ w' = w := by
  rw [isNameL_madeOf]
  have C := isMadeOf_any _ _ tells_nameByte s
  go_enter Tryz.func58, Tryz.ntmps58
  go_wp2_with (go_at_call 88; refine (C _ hs).mono ?_; rintro e w' ⟨rfl, rfl⟩)
  go_ret
  exact ⟨rfl, rfl⟩

/-- The slice v reads as these names. -/
def NamesAt (w : World) (v : Value) (xs : List Str) : Prop :=
  ∃ ao cap, v = .slice ao xs.length cap ∧ xs.length ≤ cap ∧ cap ≤ maxLen ∧ ∀ k (h : k < xs.length), ∃ g o, ao = some ⟨g, o, none⟩ ∧ g < w.heap.size ∧ w.cell? ⟨g, o + k, none⟩ = some (SV xs[k])

theorem names_of_row {w : World} {base : Nat} {v : Value} {n : Nat} {xs : List Str} (h : w.ownsRow base 9 1 v n (xs.map SV)) : NamesAt w v xs := by
  rcases strs_cells h with ⟨rfl, rfl, rfl⟩ | ⟨g, cap, rfl, rfl, hg, hgb, hc, hm, hp⟩
  · exact ⟨none, 0, rfl, by simp, by unfold maxLen; omega, fun k hk => by simp at hk⟩
  · exact ⟨_, cap, rfl, hc, hm, fun k hk => ⟨g, 0, rfl, hg, by rw [Nat.zero_add]; exact hp k hk⟩⟩
theorem names_below {w w' : World} {B : Nat} {v : Value} {xs : List Str} (h : NamesAt w v xs) (hb : Below B w w') (hB : w.heap.size ≤ B) : NamesAt w' v xs := by
  obtain ⟨ao, cap, h1, h2, h3, h4⟩ := h
  refine ⟨ao, cap, h1, h2, h3, fun k hk => ?_⟩
  obtain ⟨g, o, h5, h6, h7⟩ := h4 k hk
  have := hb.size
  exact ⟨g, o, h5, by omega, (hb.cell (p := ⟨g, o + k, none⟩) (by simp only; omega)).trans h7⟩

theorem isPathL_of {p : Str} (h1 : (splitL 47 p).length ≤ 5) (h2 : ∀ j (hj : j < (splitL 47 p).length), isNameL (splitL 47 p)[j] false = true) : isPathL p = true := by
  have ha : ∀ x ∈ splitL 47 p, isNameL x false = true := by
    intro x hx; obtain ⟨j, hj, rfl⟩ := List.getElem_of_mem hx; exact h2 j hj
  have h3 := splitL_total 47 p
  have h4 := sum_le (l := splitL 47 p) (m := 8) (fun x hx => (isNameL_len (ha x hx)).2)
  unfold isPathL
  have : (splitL 47 p).all (fun x => isNameL x false) = true := by rw [List.all_eq_true]; exact ha
  simp [this, h1]; omega

/-- The function f, given as a value, tells q of a text, and nothing turns. -/
structure TellsText (f : Nat) (q : Str → Bool) : Prop where
  enters : ∀ args w, (callFunc f args).run Tryz.prog w = .ok (.enter f args) w
  calls : ∀ (s : Str) (w : World), s.length ≤ maxLen → Calls Tryz.prog f #[SV s] w fun e w' => e = .returned (.bool (q s)) ∧ w' = w

def piecesL (q : Str → Bool) (p : Str) : Bool := decide ((splitL 47 p).length ≤ 5) && (splitL 47 p).all q

def PiecesOut (w : World) (q : Str → Bool) (p : Str) (e : Ending) (w' : World) : Prop :=
  Below w.heap.size w w' ∧ ((piecesL q p = false ∧ e = .returned (.slice none 0 0)) ∨ (piecesL q p = true ∧ ∃ a n c, e = .returned (.slice (some a) n c) ∧ NamesAt w' (.slice (some a) n c) (splitL 47 p)))

set_option maxHeartbeats 1000000 in
theorem pieces_in (f : Nat) (q : Str → Bool) (p : Str) (w : World) (hF : ∀ args w, (callFunc f args).run Tryz.prog w = .ok (.enter f args) w) (hC : ∀ (s : Str) (W : World), Below w.heap.size w W → s.length ≤ maxLen → Calls Tryz.prog f #[SV s] W fun e w' => e = .returned (.bool (q s)) ∧ w' = W) (hp : p.length + 1 < maxLen) :
    Calls Tryz.prog 90 #[SV p, .func (.func f) #[] #[]] w fun e w' => PiecesOut w q p e w' := by
  go_enter Tryz.func90, Tryz.ntmps90
  go_wp2_with fail
  refine (splitN_any p 47 6 _ hp (by omega) (by omega)).mono ?_
  rintro e w1 ⟨v1, rfl, hown1, hbel1⟩
  have hl5 := splitNL_len 47 5 p
  by_cases h5 : (splitL 47 p).length ≤ 5
  · have hall := splitNL_all (c := 47) (n := 5) (s := p) (by omega)
    have hne := splitL_ne 47 p
    have hpc := splitL_piece 47 p
    simp only [show 6 - 1 = 5 from rfl] at hown1
    rw [hall] at hown1
    have hN := names_of_row hown1
    rcases strs_cells hown1 with ⟨rfl, h0, h2⟩ | ⟨g, cap, rfl, hn, hg, hgb, hcap, hm, hcell⟩
    · exact absurd h2 hne
    clear hown1 hl5 hall hn
    have Hok : Hid (∀ (_ : ∀ j (hj : j < (splitL 47 p).length), q (splitL 47 p)[j] = true), piecesL q p = true) := fun h => by
      unfold piecesL
      rw [decide_eq_true h5, Bool.true_and, List.all_eq_true]
      intro x hx; obtain ⟨j, hj, rfl⟩ := List.getElem_of_mem hx; exact h j hj
    have Hbad : Hid (∀ k (hk : k < (splitL 47 p).length), q (splitL 47 p)[k] = false → piecesL q p = false) := fun k hk h => by
      unfold piecesL
      rw [show (splitL 47 p).all q = false from List.all_eq_false.2 ⟨_, List.getElem_mem hk, by simp [h]⟩, Bool.and_false]
    have HN : Hid (NamesAt w1 (.slice (some ⟨g, 0, none⟩) (splitL 47 p).length cap) (splitL 47 p)) := hN
    clear hN
    generalize hxs : splitL 47 p = xs at *
    have Hxs : Hid _ := hxs
    clear hxs
    unfold maxLen at hm
    go_wp2
    go_loop [15] (fun i => ∃ k : Nat, k ≤ xs.length ∧ i = .int .i64 k ∧ ∀ j (hj : j < xs.length), j < k → q xs[j] = true) (fun i => xs.length - (intOf i).toNat)
    case atStart => exact ⟨0, Nat.zero_le _, rfl, fun j _ h => by omega⟩
    case round =>
      obtain ⟨k, hk, rfl, hall⟩ := hrel
      by_cases hlt : k < xs.length
      · have hkl := hpc xs[k] (List.getElem_mem hlt)
        have hml : xs[k].length ≤ maxLen := by omega
        have Ck := hC xs[k] w1 hbel1 hml
        cases he : q xs[k]
        · have R : Hid _ := Hbad.out k hlt he
          rw [he] at Ck
          clear hall hC
          go_wp2_with (refine Ck.mono ?_; rintro e w' ⟨rfl, rfl⟩)
          go_ret
          exact ⟨hbel1, .inl ⟨R.out, rfl⟩⟩
        · have R := str_step (q := q) hlt hall he
          rw [he] at Ck
          clear hall hC
          go_wp2_with (refine Ck.mono ?_; rintro e w' ⟨rfl, rfl⟩)
          go_round
          case rel => exact ⟨k + 1, by omega, by go_num, R⟩
          case measure => simp [intOf]; omega
      · have R : Hid _ := Hok.out (fun j hj => hall j hj (by omega))
        clear hall hC
        go_wp2
        go_ret
        exact ⟨hbel1, .inr ⟨R.out, _, _, _, rfl, by rw [Hxs.out]; exact HN.out⟩⟩
  · have h6 : (splitNL 47 5 p).length = 6 := by
      by_cases h : (splitL 47 p).length ≤ 6
      · rw [splitNL_all h]; omega
      · exact splitNL_many (by omega)
    have hfl : piecesL q p = false := by unfold piecesL; simp [h5]
    simp only [show 6 - 1 = 5 from rfl] at hown1
    rw [h6] at hown1
    obtain ⟨ao, cap, rfl⟩ := row_form hown1
    have HF : Hid _ := hfl
    clear hfl h6 hown1 hl5 hC
    go_wp2
    go_ret
    exact ⟨hbel1, .inl ⟨HF.out, rfl⟩⟩

theorem pieces_any (f : Nat) (q : Str → Bool) (hf : TellsText f q) (p : Str) (w : World) (hp : p.length + 1 < maxLen) :
    Calls Tryz.prog 90 #[SV p, .func (.func f) #[] #[]] w fun e w' => PiecesOut w q p e w' := pieces_in f q p w hf.enters (fun s W _ hs => hf.calls s W hs) hp

theorem tells_isName : TellsText 58 (fun s => isNameL s false) := ⟨enters_of Tryz.func58 (by kernel_rfl) rfl, prgIsName_any⟩

theorem isPathL_pieces (p : Str) : isPathL p = piecesL (fun s => isNameL s false) p := by
  by_cases h5 : (splitL 47 p).length ≤ 5
  · cases ha : (splitL 47 p).all fun s => isNameL s false
    · obtain ⟨x, hx, hq⟩ := List.all_eq_false.1 ha
      obtain ⟨j, hj, rfl⟩ := List.getElem_of_mem hx
      rw [isPathL_bad hj (by simpa using hq)]; unfold piecesL; rw [ha, Bool.and_false]
    · rw [isPathL_of h5 (fun j hj => List.all_eq_true.1 ha _ (List.getElem_mem hj))]; unfold piecesL; rw [ha, decide_eq_true h5]; rfl
  · have h1 : isPathL p = false := by unfold isPathL; simp [h5]
    rw [h1]; unfold piecesL; rw [decide_eq_false h5]; rfl

def NamesOut (w : World) (p : Str) (e : Ending) (w' : World) : Prop :=
  Below w.heap.size w w' ∧ ((isPathL p = false ∧ e = .returned (.slice none 0 0)) ∨ (isPathL p = true ∧ ∃ a n c, e = .returned (.slice (some a) n c) ∧ NamesAt w' (.slice (some a) n c) (splitL 47 p)))

set_option maxHeartbeats 1000000 in
theorem namesOf_any (p : Str) (w : World) (hp : p.length + 1 < maxLen) :
    Calls Tryz.prog 61 #[SV p] w fun e w' => NamesOut w p e w' := by
  have C := pieces_any _ _ tells_isName p w hp
  have HN : Hid (∀ e w', PiecesOut w (fun s => isNameL s false) p e w' → NamesOut w p e w') := fun e w' h => by
    unfold PiecesOut at h
    rw [← isPathL_pieces] at h
    exact h
  go_enter Tryz.func61, Tryz.ntmps61
  go_wp2_with (go_at_call 90; refine C.mono ?_)
  intro e w1 h1
  have h2 := HN.out e w1 h1
  obtain ⟨hb, ⟨hp0, rfl⟩ | ⟨hp1, a, n, c, rfl, hn⟩⟩ := h2
  · have HR : Hid (NamesOut w p (.returned (.slice none 0 0)) w1) := ⟨hb, .inl ⟨hp0, rfl⟩⟩
    clear h1 hp0
    go_wp2
    go_ret
    exact HR.out
  · have HR : Hid (NamesOut w p (.returned (.slice (some a) n c)) w1) := ⟨hb, .inr ⟨hp1, a, n, c, rfl, hn⟩⟩
    clear h1 hp1 hn
    go_wp2
    go_ret
    exact HR.out

/-- The names of one path begin those of the other. -/
def beginsL (a b : List Str) : Bool := decide (a = b.take (min a.length b.length))

set_option maxHeartbeats 1000000 in
theorem equal_any (a b : List Str) (va vb : Value) (w : World) (ha : NamesAt w va a) (hb : NamesAt w vb b) :
    Calls Tryz.prog 95 #[va, vb] w fun e w' => e = .returned (.bool (decide (a = b))) ∧ Below w.heap.size w w' := by
  obtain ⟨ao, ca, rfl, hac, ham, hacell⟩ := ha
  obtain ⟨bo, cb, rfl, hbc, hbm, hbcell⟩ := hb
  unfold maxLen at ham hbm
  cases hl : ((a.length : Int) == (b.length : Int))
  · have R : Hid (decide (a = b) = false) := by rw [Hid, decide_eq_false_iff_not]; intro e; rw [e] at hl; simp at hl
    go_enter Tryz.func95, Tryz.ntmps95
    go_wp2
    go_ret
    exact ⟨by rw [R.out]; rfl, Below.refl _ _⟩
  · have hle : a.length = b.length := by simp at hl; omega
    have Hle : Hid _ := hle
    have hl1 : a.length ≤ b.length := by omega
    have hl2 : b.length ≤ a.length := by omega
    clear hle
    go_enter Tryz.func95, Tryz.ntmps95
    go_wp2
    go_loopw [13] (fun i wr => ∃ k n : Nat, k ≤ a.length ∧ i = .int .i64 k ∧ wr = w.drewN n ∧ a.take k = b.take k) (fun i _ => a.length - (intOf i).toNat)
    case atStart => exact ⟨0, 0, Nat.zero_le _, rfl, rfl, rfl⟩
    case round =>
      obtain ⟨k, n, hk, rfl, rfl, hst⟩ := hrel
      have Hst : Hid _ := hst
      clear hst
      by_cases hlt : k < a.length
      · have hltb : k < b.length := by omega
        obtain ⟨g1, o1, rfl, hg1, hc1⟩ := hacell k hlt
        obtain ⟨g2, o2, rfl, hg2, hc2⟩ := hbcell k hltb
        clear hacell hbcell
        cases he : (a[k] == b[k])
        · have hne : (a[k] != b[k]) = true := by simp at he ⊢; exact he
          have R : Hid (decide (a = b) = false) := by
            rw [Hid, decide_eq_false_iff_not]; intro e; subst e; simp at he
          go_wp2
          go_quiet (fail)
          go_wp2
          go_ret
          exact ⟨by rw [R.out]; rfl, below_drewN (below_drewN (Below.refl _ _) _) _⟩
        · have hne : (a[k] != b[k]) = false := by simp at he ⊢; exact he
          have R : Hid (a.take (k + 1) = b.take (k + 1)) := by
            simp at he
            rw [Hid, List.take_succ_eq_append_getElem hlt, List.take_succ_eq_append_getElem hltb, Hst.out, he]
          have he2 : a[k] = b[k] := by simpa using he
          rw [he2] at hc1
          clear he hne he2
          go_wp2
          go_quiet (fail)
          go_wp2
          go_roundw
          case rel => exact ⟨k + 1, _, by omega, by go_num, rfl, R.out⟩
          case measure => simp [intOf]; omega
      · have R : Hid (decide (a = b) = true) := by
          have h := Hst.out
          rw [List.take_of_length_le (by omega), List.take_of_length_le (by omega)] at h
          rw [Hid, decide_eq_true h]
        clear hacell hbcell
        go_wp2
        go_ret
        exact ⟨by rw [R.out]; rfl, below_drewN (Below.refl _ _) _⟩

end Go.Proofs.YtdcbgfhkfmohiaaGreatDoor

/- Contracts of the program: begins; nodes in memory. -/
namespace Go.Proofs.YtdcbgfhkfmohiaaGreatDoor
open Go.RowKit

theorem names_take {w : World} {ao : Option Addr} {cap m : Nat} {xs : List Str} (h : NamesAt w (.slice ao xs.length cap) xs) (hm : m ≤ xs.length) : NamesAt w (.slice ao m cap) (xs.take m) := by
  obtain ⟨ao', cap', h1, h2, h3, h4⟩ := h
  simp only [Value.slice.injEq] at h1
  obtain ⟨rfl, _, rfl⟩ := h1
  have hl : (xs.take m).length = m := by simp; omega
  refine ⟨ao, cap, by rw [hl], by omega, h3, fun k hk => ?_⟩
  obtain ⟨g, o, h5, h6, h7⟩ := h4 k (by omega)
  exact ⟨g, o, h5, h6, by rw [List.getElem_take]; exact h7⟩

theorem names_form {w : World} {v : Value} {xs : List Str} (h : NamesAt w v xs) : ∃ ao cap, v = .slice ao xs.length cap ∧ xs.length ≤ cap ∧ cap ≤ maxLen := by
  obtain ⟨ao, cap, h1, h2, h3, _⟩ := h
  exact ⟨ao, cap, h1, h2, h3⟩

set_option maxHeartbeats 1000000 in
theorem begins_any (a b : List Str) (va vb : Value) (w : World) (ha : NamesAt w va a) (hb : NamesAt w vb b) :
    Calls Tryz.prog 65 #[va, vb] w fun e w' => e = .returned (.bool (beginsL a b)) ∧ Below w.heap.size w w' := by
  obtain ⟨ao, ca, rfl, hac, ham⟩ := names_form ha
  obtain ⟨bo, cb, rfl, hbc, hbm⟩ := names_form hb
  unfold maxLen at ham hbm
  by_cases hle : a.length ≤ b.length
  · have hT := names_take hb hle
    have R : Hid (beginsL a b = decide (a = b.take a.length)) := by rw [Hid, beginsL, Nat.min_eq_left hle]
    have hmin : min (a.length : Int) (b.length : Int) = a.length := by omega
    go_enter Tryz.func65, Tryz.ntmps65
    go_wp2_with fail
    refine (equal_any a (b.take a.length) _ _ _ ha hT).mono ?_
    rintro e w' ⟨rfl, hbel⟩
    go_wp2
    go_ret
    exact ⟨by rw [R.out]; rfl, hbel⟩
  · have hT := names_take hb (Nat.le_refl _)
    rw [List.take_length] at hT
    have R : Hid (beginsL a b = decide (a = b)) := by rw [Hid, beginsL, Nat.min_eq_right (by omega), List.take_length]
    have hmin : min (a.length : Int) (b.length : Int) = b.length := by omega
    go_enter Tryz.func65, Tryz.ntmps65
    go_wp2_with fail
    refine (equal_any a b _ _ _ ha hT).mono ?_
    rintro e w' ⟨rfl, hbel⟩
    go_wp2
    go_ret
    exact ⟨by rw [R.out]; rfl, hbel⟩

end Go.Proofs.YtdcbgfhkfmohiaaGreatDoor

/- Contracts of the program's node.go: search, find. -/
namespace Go.Proofs.YtdcbgfhkfmohiaaGreatDoor
open Go.RowKit

/-- The entries of a listing whose first cell lies at (b, o): count, then name and node by turns, 20 of them. -/
def listCells (es : List (Str × Value)) : List Value := .int .i64 es.length :: (es.flatMap (fun e => [SV e.1, e.2]) ++ (List.replicate (20 - es.length) [SV [], .nilIface]).flatten)

structure ListAt (w : World) (b o : Nat) (es : List (Str × Value)) : Prop where
  few : es.length ≤ 20
  cell : ∀ i u, (listCells es)[i]? = some u → w.cell? ⟨b, o + i, none⟩ = some u

theorem listCells_len {es : List (Str × Value)} (h : es.length ≤ 20) : (listCells es).length = 41 := by
  have h1 : (es.flatMap fun e => [SV e.1, e.2]).length = 2 * es.length := by
    clear h; induction es with
    | nil => rfl
    | cons e es ih => simp at *; omega
  have h2 : ((List.replicate (20 - es.length) [SV [], Value.nilIface]).flatten).length = 2 * (20 - es.length) := by
    simp; omega
  unfold listCells; rw [List.length_cons, List.length_append, h1, h2]; omega
theorem flatE_get (es : List (Str × Value)) (k : Nat) (h : k < es.length) : (es.flatMap fun e => [SV e.1, e.2])[k * 2]? = some (SV es[k].1) ∧ (es.flatMap fun e => [SV e.1, e.2])[k * 2 + 1]? = some es[k].2 := by
  induction es generalizing k with
  | nil => simp at h
  | cons f t ih =>
    cases k with
    | zero => simp
    | succ k =>
      have := ih k (by simpa using h)
      simp only [List.flatMap_cons, List.getElem_cons_succ] at *
      rw [show (k + 1) * 2 = k * 2 + 2 from by omega, show k * 2 + 2 + 1 = (k * 2 + 1) + 2 from by omega]
      simpa using this
theorem flatE_len (es : List (Str × Value)) : (es.flatMap fun e => [SV e.1, e.2]).length = es.length * 2 := by
  induction es with
  | nil => rfl
  | cons e es ih => simp at *; omega
theorem listCells_name {es : List (Str × Value)} {k : Nat} (h : k < es.length) : (listCells es)[k * 2 + 1]? = some (SV es[k].1) ∧ (listCells es)[k * 2 + 2]? = some es[k].2 := by
  have hl := flatE_len es
  unfold listCells
  rw [List.getElem?_cons_succ, List.getElem?_cons_succ, List.getElem?_append_left (by omega), List.getElem?_append_left (by omega)]
  exact flatE_get es k h
theorem listCells_count (es : List (Str × Value)) : (listCells es)[0]? = some (.int .i64 es.length) := rfl

theorem ListAt.count {w : World} {b o : Nat} {es : List (Str × Value)} (h : ListAt w b o es) : w.cell? ⟨b, o, none⟩ = some (.int .i64 es.length) := h.cell 0 _ rfl
theorem ListAt.name {w : World} {b o : Nat} {es : List (Str × Value)} (h : ListAt w b o es) {k : Nat} (hk : k < es.length) : w.cell? ⟨b, o + 1 + k * 2, none⟩ = some (SV es[k].1) := by
  have := h.cell _ _ (listCells_name hk).1; rw [show o + (k * 2 + 1) = o + 1 + k * 2 from by omega] at this; exact this
theorem ListAt.node {w : World} {b o : Nat} {es : List (Str × Value)} (h : ListAt w b o es) {k : Nat} (hk : k < es.length) : w.cell? ⟨b, o + 1 + k * 2 + 1, none⟩ = some es[k].2 := by
  have := h.cell _ _ (listCells_name hk).2; rw [show o + (k * 2 + 2) = o + 1 + k * 2 + 1 from by omega] at this; exact this

/-- Where a name is, or would be. -/
def posE : List (Str × Value) → Str → Nat
  | [], _ => 0
  | e :: es, x => if Op.bytesLess e.1 x then posE es x + 1 else 0
def thereE (es : List (Str × Value)) (x : Str) : Bool := match es[posE es x]? with
  | some e => e.1 == x
  | none => false

theorem posE_le (es : List (Str × Value)) (x : Str) : posE es x ≤ es.length := by
  induction es with
  | nil => simp [posE]
  | cons e es ih => rw [posE]; split <;> simp; omega
theorem posE_less (es : List (Str × Value)) (x : Str) : ∀ k (h : k < es.length), k < posE es x → Op.bytesLess es[k].1 x = true := by
  induction es with
  | nil => intro k h; simp at h
  | cons e es ih =>
    intro k h hk
    rw [posE] at hk
    split at hk
    · rename_i he
      cases k with
      | zero => exact he
      | succ k => exact ih k (by simpa using h) (by omega)
    · omega
theorem posE_at (es : List (Str × Value)) (x : Str) (h : posE es x < es.length) : Op.bytesLess es[posE es x].1 x = false := by
  induction es with
  | nil => simp at h
  | cons e es ih =>
    by_cases he : Op.bytesLess e.1 x = true
    · have h1 : posE (e :: es) x = posE es x + 1 := by rw [posE, if_pos he]
      have := ih (by rw [h1] at h; simpa using h)
      simp only [h1, List.getElem_cons_succ]; exact this
    · have h1 : posE (e :: es) x = 0 := by rw [posE, if_neg he]
      simp only [h1, List.getElem_cons_zero]; simpa using he

set_option maxHeartbeats 2000000 in
theorem search_any (b o : Nat) (es : List (Str × Value)) (x : Str) (w : World) (h : ListAt w b o es) :
    Calls Tryz.prog 110 #[.pointer (some ⟨b, o, none⟩), SV x] w fun e w' => e = .returned (.tuple #[.int .i64 (posE es x), .bool (thereE es x)]) ∧ Below w.heap.size w w' := by
  have hcnt := h.count
  have hfew := h.few
  have hle := posE_le es x
  go_enter Tryz.func110, Tryz.ntmps110
  go_wp2
  go_loop [6] (fun i => ∃ k : Nat, k ≤ posE es x ∧ i = .int .i64 k) (fun i => es.length - (intOf i).toNat)
  case atStart => exact ⟨0, Nat.zero_le _, rfl⟩
  case round =>
    obtain ⟨k, hk, rfl⟩ := hrel
    by_cases hlt : k < es.length
    · have hn := h.name hlt
      have hidx : (k : Int) < 20 := by omega
      by_cases hp : k < posE es x
      · have hb := posE_less es x k hlt hp
        clear h
        go_wp2
        go_round
        case rel => exact ⟨k + 1, by omega, by go_num⟩
        case measure => simp [intOf]; omega
      · have hke : k = posE es x := by omega
        have hb : Op.bytesLess es[k].1 x = false := by subst hke; exact posE_at es x hlt
        have R : Hid (posE es x = k ∧ thereE es x = (es[k].1 == x)) := by refine ⟨hke.symm, ?_⟩; unfold thereE; rw [← hke, List.getElem?_eq_getElem hlt]
        clear h hke hk hle hp
        go_wp2
        go_quiet (fail)
        go_wp2
        go_ret2
        refine ⟨?_, below_drewN (Below.refl _ _) _⟩
        rw [R.out.1, R.out.2]; rfl
    · have hke : k = posE es x := by omega
      have hkl : k = es.length := by omega
      have R : Hid (posE es x = k ∧ thereE es x = false) := by refine ⟨hke.symm, ?_⟩; unfold thereE; rw [← hke, List.getElem?_eq_none (by omega)]
      have hd : decide ((k : Int) < (es.length : Int)) = false := by simp; omega
      clear h hke hk hle hkl
      go_wp2
      go_quiet (fail)
      go_wp2
      go_ret2
      refine ⟨?_, below_drewN (Below.refl _ _) _⟩
      rw [R.out.1, R.out.2]; rfl

/-- What a name leads to, or nil. -/
def valE (es : List (Str × Value)) (x : Str) : Value := match es[posE es x]? with
  | some e => if e.1 == x then e.2 else .nilIface
  | none => .nilIface

set_option maxHeartbeats 1000000 in
theorem find_list (b o : Nat) (es : List (Str × Value)) (x : Str) (w : World) (h : ListAt w b o es) (hb : b < w.heap.size) (hv : ∀ e ∈ es, ∃ t n, e.2 = .iface t (.pointer (some ⟨n, 0, none⟩))) :
    Calls Tryz.prog 77 #[.pointer (some ⟨b, o, none⟩), SV x] w fun e w' => e = .returned (valE es x) ∧ Below w.heap.size w w' := by
  have hle := posE_le es x
  have hfew := h.few
  go_enter Tryz.func77, Tryz.ntmps77
  go_wp2_with fail
  refine (search_any b o es x _ h).mono ?_
  rintro e w1 ⟨rfl, hb1⟩
  cases ht : thereE es x
  · have R : Hid (valE es x = .nilIface) := by
      unfold thereE at ht; unfold valE
      cases hx : es[posE es x]? with
      | none => exact rfl
      | some e => rw [hx] at ht; simp only at ht; simp only [ht]; exact rfl
    go_wp2
    go_ret
    exact ⟨by rw [R.out]; rfl, hb1⟩
  · have hp : posE es x < es.length := by
      unfold thereE at ht
      cases hx : es[posE es x]? with
      | none => rw [hx] at ht; simp at ht
      | some e => exact (List.getElem?_eq_some_iff.1 hx).1
    have R : Hid (valE es x = es[posE es x].2) := by
      unfold thereE at ht; unfold valE
      rw [List.getElem?_eq_getElem hp] at ht ⊢
      simp only at ht; simp only [ht]; exact rfl
    have hn := (hb1.cell (p := ⟨b, o + 1 + posE es x * 2 + 1, none⟩) hb).trans (h.node hp)
    have hidx : (posE es x : Int) < 20 := by omega
    obtain ⟨t, n, h1c⟩ := hv es[posE es x] (List.getElem_mem hp)
    rw [h1c] at hn
    have R2 : Hid (valE es x = .iface t (.pointer (some ⟨n, 0, none⟩))) := by rw [Hid, R.out, h1c]
    clear h hv h1c R
    generalize posE es x = k at *
    go_wp2
    go_ret
    exact ⟨by rw [R2.out]; rfl, hb1⟩

end Go.Proofs.YtdcbgfhkfmohiaaGreatDoor

/- The program's nodes in memory; look. -/
namespace Go.Proofs.YtdcbgfhkfmohiaaGreatDoor
open Go.RowKit

abbrev fileV (b : Nat) : Value := .iface 131 (.pointer (some ⟨b, 0, none⟩))
abbrev dirV (b : Nat) : Value := .iface 89 (.pointer (some ⟨b, 0, none⟩))

/-- A directory in block b: its users, what lies in it. -/
def DirAt (w : World) (b : Nat) (u : Int) (vs : List (Str × Value)) : Prop :=
  vs.length ≤ 20 ∧ w.heap[b]? = some (.cells (Value.int .i64 u :: listCells vs).toArray 149 (0, 0))
def FileAt (w : World) (b : Nat) (u : Int) (d : Str) : Prop :=
  w.heap[b]? = some (.cells #[.int .i64 u, SV d] 135 (0, 0))

theorem DirAt.list {w : World} {b : Nat} {u : Int} {vs : List (Str × Value)} (h : DirAt w b u vs) : ListAt w b 1 vs := by
  refine ⟨h.1, fun i x hx => ?_⟩
  rw [blk_cell h.2, Nat.add_comm]
  simpa using hx
theorem DirAt.users {w : World} {b : Nat} {u : Int} {vs : List (Str × Value)} (h : DirAt w b u vs) : w.cell? ⟨b, 0, none⟩ = some (.int .i64 u) := by rw [blk_cell h.2]; rfl
theorem DirAt.lt {w : World} {b : Nat} {u : Int} {vs : List (Str × Value)} (h : DirAt w b u vs) : b < w.heap.size := (Array.getElem?_eq_some_iff.1 h.2).1
theorem FileAt.lt {w : World} {b : Nat} {u : Int} {d : Str} (h : FileAt w b u d) : b < w.heap.size := (Array.getElem?_eq_some_iff.1 h).1

mutual
/-- The value stands for the tree; Q holds of each node's block and its users. -/
inductive RepT (w : World) (Q : Nat → Int → Prop) : Value → Tree → Prop
  | file {b : Nat} {u : Int} {d : Str} (h : FileAt w b u d) (hq : Q b u) : RepT w Q (fileV b) (.file d)
  | dir {b : Nat} {u : Int} {vs : List (Str × Value)} {es : Ents} (h : DirAt w b u vs) (hq : Q b u) (he : RepE w Q vs es) : RepT w Q (dirV b) (.dir es)
inductive RepE (w : World) (Q : Nat → Int → Prop) : List (Str × Value) → Ents → Prop
  | nil : RepE w Q [] []
  | cons {x : Str} {v : Value} {t : Tree} {vs : List (Str × Value)} {es : Ents} (h : RepT w Q v t) (hs : RepE w Q vs es) : RepE w Q ((x, v) :: vs) ((x, t) :: es)
end

theorem RepT.form {w : World} {Q : Nat → Int → Prop} {v : Value} {t : Tree} (h : RepT w Q v t) : ∃ k n, v = .iface k (.pointer (some ⟨n, 0, none⟩)) := by
  cases h with
  | file => exact ⟨_, _, rfl⟩
  | dir => exact ⟨_, _, rfl⟩
theorem RepE.forms {w : World} {Q : Nat → Int → Prop} {vs : List (Str × Value)} {es : Ents} (h : RepE w Q vs es) : ∀ e ∈ vs, ∃ k n, e.2 = .iface k (.pointer (some ⟨n, 0, none⟩)) := by
  induction vs generalizing es with
  | nil => intro e he; simp at he
  | cons f vs ih =>
    cases h with
    | cons h hs =>
      intro e he; simp at he; rcases he with rfl | he
      · exact h.form
      · exact ih hs e he
theorem RepE.len {w : World} {Q : Nat → Int → Prop} {vs : List (Str × Value)} {es : Ents} (h : RepE w Q vs es) : vs.length = es.length := by
  induction vs generalizing es with
  | nil => cases h; rfl
  | cons f vs ih => cases h with
    | cons h hs => simp [ih hs]

mutual
theorem RepT.keep {w w' : World} {Q Q' : Nat → Int → Prop} (hd : ∀ b u vs, DirAt w b u vs → Q b u → ∃ u', DirAt w' b u' vs ∧ Q' b u') (hf : ∀ b u d, FileAt w b u d → Q b u → ∃ u', FileAt w' b u' d ∧ Q' b u') : ∀ {v t}, RepT w Q v t → RepT w' Q' v t
  | _, _, .file h hq => by obtain ⟨u', h1, h2⟩ := hf _ _ _ h hq; exact .file h1 h2
  | _, _, .dir h hq he => by obtain ⟨u', h1, h2⟩ := hd _ _ _ h hq; exact .dir h1 h2 (RepE.keep hd hf he)
theorem RepE.keep {w w' : World} {Q Q' : Nat → Int → Prop} (hd : ∀ b u vs, DirAt w b u vs → Q b u → ∃ u', DirAt w' b u' vs ∧ Q' b u') (hf : ∀ b u d, FileAt w b u d → Q b u → ∃ u', FileAt w' b u' d ∧ Q' b u') : ∀ {vs es}, RepE w Q vs es → RepE w' Q' vs es
  | _, _, .nil => .nil
  | _, _, .cons h hs => .cons (RepT.keep hd hf h) (RepE.keep hd hf hs)
end

theorem DirAt.below {w w' : World} {B b : Nat} {u : Int} {vs : List (Str × Value)} (h : DirAt w b u vs) (hb : Below B w w') (hB : w.heap.size ≤ B) : DirAt w' b u vs :=
  ⟨h.1, (hb.block b (by have := h.lt; omega)).trans h.2⟩
theorem FileAt.below {w w' : World} {B b : Nat} {u : Int} {d : Str} (h : FileAt w b u d) (hb : Below B w w') (hB : w.heap.size ≤ B) : FileAt w' b u d :=
  (hb.block b (by have := h.lt; omega)).trans h
theorem RepT.later {w w' : World} {B : Nat} {Q : Nat → Int → Prop} {v : Value} {t : Tree} (h : RepT w Q v t) (hb : Below B w w') (hB : w.heap.size ≤ B) : RepT w' Q v t :=
  h.keep (fun _ u _ h hq => ⟨u, h.below hb hB, hq⟩) (fun _ u _ h hq => ⟨u, h.below hb hB, hq⟩)
theorem RepE.later {w w' : World} {B : Nat} {Q : Nat → Int → Prop} {vs : List (Str × Value)} {es : Ents} (h : RepE w Q vs es) (hb : Below B w w') (hB : w.heap.size ≤ B) : RepE w' Q vs es :=
  h.keep (fun _ u _ h hq => ⟨u, h.below hb hB, hq⟩) (fun _ u _ h hq => ⟨u, h.below hb hB, hq⟩)

/-- What find answers is what the tree has there. -/
def RepO (w : World) (Q : Nat → Int → Prop) (v : Value) (t : Option Tree) : Prop := match t with
  | none => v = .nilIface
  | some t => RepT w Q v t

theorem rep_find {w : World} {Q : Nat → Int → Prop} {vs : List (Str × Value)} {es : Ents} (h : RepE w Q vs es) (hw : WFE es) (x : Str) : RepO w Q (valE vs x) (findE es x) := by
  induction vs generalizing es with
  | nil => cases h; exact rfl
  | cons f vs ih =>
    cases h with
    | @cons y v t _ es h hs =>
      unfold WFE at hw
      have ih := ih hs hw.2.2.2
      by_cases hl : Op.bytesLess y x = true
      · have e1 : valE ((y, v) :: vs) x = valE vs x := by unfold valE; rw [posE, if_pos hl]; rfl
        have e2 : findE ((y, t) :: es) x = findE es x := by rw [findE, if_neg (bl_ne hl)]
        rw [e1, e2]; exact ih
      · have e1 : valE ((y, v) :: vs) x = if (y == x) = true then v else .nilIface := by unfold valE; rw [posE, if_neg hl]; rfl
        rw [e1, findE]
        by_cases e : y = x
        · subst e; rw [if_pos (by simp), if_pos rfl]; exact h
        · rw [if_neg (by simpa using e), if_neg e]
          rw [findE_none]
          · exact rfl
          · intro z hz e2
            have h1 := hw.2.2.1 z hz
            rw [e2] at h1
            exact hl h1

def placeN : Place → Int
  | .free => 0
  | .blocked => 1
  | .atFile => 2
  | .atDir => 3

/-- What look answers. -/
def LookOut (w : World) (Q : Nat → Int → Prop) (t : Option Tree) (q : List Str) (e : Ending) : Prop :=
  ∃ v, e = .returned (.tuple #[v, .int .i64 (placeN (look t q))]) ∧ RepO w Q v (t.bind fun t => sub t q)

theorem look_sub (t : Tree) (q : List Str) : (look (some t) q = .atFile ∨ look (some t) q = .atDir) ↔ (sub t q).isSome = true := by
  induction q generalizing t with
  | nil => cases t <;> simp [look, sub]
  | cons x r ih =>
    cases t with
    | file d => simp [look, sub]
    | dir es =>
      rw [look, sub]
      cases findE es x with
      | none => simp [look]
      | some u => exact ih u

theorem names_tail {w : World} {x : Str} {r : List Str} {a : Addr} {n cap : Nat} (h : NamesAt w (.slice (some a) n cap) (x :: r)) :
    ∃ g o, a = ⟨g, o, none⟩ ∧ n = r.length + 1 ∧ n ≤ cap ∧ cap ≤ maxLen ∧ g < w.heap.size ∧ w.cell? ⟨g, o, none⟩ = some (SV x) ∧ (∀ b c m, (0 < r.length → b = some ⟨g, o + 1, none⟩) → m = r.length → m ≤ c → c ≤ maxLen → NamesAt w (.slice b m c) r) := by
  obtain ⟨ao, cap', h1, h2, h3, h4⟩ := h
  simp only [Value.slice.injEq] at h1
  obtain ⟨rfl, rfl, rfl⟩ := h1
  obtain ⟨g, o, h5, h6, h7⟩ := h4 0 (by simp)
  simp only [Option.some.injEq] at h5
  refine ⟨g, o, h5, by simp, by simpa using h2, h3, h6, by simpa using h7, ?_⟩
  intro b c m hb hm hmc hc
  refine ⟨b, c, by rw [hm], by omega, hc, fun k hk => ?_⟩
  obtain ⟨g', o', h8, h9, h10⟩ := h4 (k + 1) (by simp; omega)
  rw [h5] at h8
  simp only [Option.some.injEq, Addr.mk.injEq, and_true] at h8
  obtain ⟨rfl, rfl⟩ := h8
  refine ⟨g, o + 1, hb (by omega), h9, ?_⟩
  rw [show o + 1 + k = o + (k + 1) from by omega]
  simpa using h10

theorem Tryz.assertFile (b : Nat) (w : World) : (Instr.typeAssert (fileV b) 99 131 true).run Tryz.prog w = .ok (.tuple #[.pointer (some ⟨b, 0, none⟩), .bool true]) w := by kernel_rfl
theorem Tryz.assertFileNo (b : Nat) (w : World) : (Instr.typeAssert (fileV b) 99 89 true).run Tryz.prog w = .ok (.tuple #[.pointer none, .bool false]) w := by kernel_rfl
theorem Tryz.assertDir (b : Nat) (w : World) : (Instr.typeAssert (dirV b) 99 89 true).run Tryz.prog w = .ok (.tuple #[.pointer (some ⟨b, 0, none⟩), .bool true]) w := by kernel_rfl
theorem Tryz.assertDirNo (b : Nat) (w : World) : (Instr.typeAssert (dirV b) 99 131 true).run Tryz.prog w = .ok (.tuple #[.pointer none, .bool false]) w := by kernel_rfl
theorem Tryz.assertNil1 (w : World) : (Instr.typeAssert .nilIface 99 131 true).run Tryz.prog w = .ok (.tuple #[.pointer none, .bool false]) w := by kernel_rfl
theorem Tryz.assertNil2 (w : World) : (Instr.typeAssert .nilIface 99 89 true).run Tryz.prog w = .ok (.tuple #[.pointer none, .bool false]) w := by kernel_rfl

end Go.Proofs.YtdcbgfhkfmohiaaGreatDoor
