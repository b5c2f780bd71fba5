/- What a store tells of all its files: 'glob **', 'read p'. No program. -/
import Derived.Test.YtdcbgfhkfmohiaaGreatDoorKb27
namespace Go.Proofs.YtdcbgfhkfmohiaaGreatDoor
open Go.RowKit

def globAll : Str := [103, 108, 111, 98, 32, 42, 42]
def readOf (p : Str) : Str := 114 :: 101 :: 97 :: 100 :: 32 :: p

theorem fits_all (p : Str) : fitsL [42, 42] p = true := by
  unfold fitsL
  rw [show splitL 47 [42, 42] = [[42, 42]] by decide]
  exact (laid_run (by decide)).2 ⟨splitL 47 p, [], by simp, rfl⟩
theorem ask_all {r : RSt} {n : Int} {l : List Fl} (hf : findL r.all n = some l) : askR r n globAll = (l.flatMap (fun f => f.1 ++ [10]), 0) := by
  rw [askR_ok hf (by decide), answerL_glob (p := [42, 42]) (by decide) (by decide)]
  unfold globL
  simp only [fits_all, if_true]

theorem name_byte {x : Str} (h : isNameL x false = true) : ∀ b ∈ x, b ≠ 32 ∧ b ≠ 10 := by
  unfold isNameL at h
  simp only [Bool.and_eq_true, List.all_eq_true] at h
  intro b hb
  have := h.2 b hb
  constructor
  · intro e; subst e; revert this; decide
  · intro e; subst e; revert this; decide
theorem join_byte {q : List Str} (h : ∀ x ∈ q, isNameL x false = true) : ∀ b ∈ joinP q, b ≠ 32 ∧ b ≠ 10 := by
  induction q with
  | nil => intro b hb; simp [joinP] at hb
  | cons x r ih =>
    intro b hb
    cases r with
    | nil => exact name_byte (h x (by simp)) b (by simpa [joinP] using hb)
    | cons y r' =>
      have e : joinP (x :: y :: r') = x ++ 47 :: joinP (y :: r') := by simp [joinP]
      rw [e, List.mem_append, List.mem_cons] at hb
      rcases hb with hb | rfl | hb
      · exact name_byte (h x (by simp)) b hb
      · decide
      · exact ih (fun z hz => h z (by simp [hz])) b hb

structure FileOk (p : Str) : Prop where
  path : isPathL p = true
  free : ∀ b ∈ p, b ≠ 32 ∧ b ≠ 10
  short : p.length ≤ 44
theorem file_ok {es : Ents} (h : WFE es) (h5 : heightE es ≤ 5) {f : NF} (hf : f ∈ filesE es) : FileOk (joinP f.1) := by
  have hN := (valid_files h).1 f hf
  have hl : f.1.length ≤ 5 := by
    obtain ⟨p, d⟩ := f
    have := (mem_root h p d).1 hf
    cases p with
    | nil => exact absurd rfl hN.1
    | cons x r => exact (heightE_le es h 5).1 h5 x r d this
  have hs := path_short hN hl
  refine ⟨?_, join_byte hN.2, hs⟩
  unfold isPathL
  rw [hN.split]
  simp only [Bool.and_eq_true, decide_eq_true_eq, List.all_eq_true]
  exact ⟨⟨by omega, hN.2⟩, hl⟩

theorem split_read {p : Str} (h : ∀ b ∈ p, b ≠ 32) : splitL 32 (readOf p) = [kRead, p] := by
  have : readOf p = kRead ++ 32 :: p := rfl
  rw [this, splitL_at (by decide), splitL_none h]
theorem check_read {p : Str} (h : FileOk p) : checkL (readOf p) = 0 := by
  have hl : (readOf p).length = p.length + 5 := by simp [readOf]
  have h1 := h.short
  unfold checkL
  rw [if_neg (by omega), split_read (fun b hb => (h.free b hb).1)]
  have hne : p ≠ [] := by
    intro e
    have := h.path
    rw [e] at this
    revert this; decide
  unfold checkW
  have hp : isPlaceL p = true := by unfold isPlaceL; rw [h.path]; rfl
  rw [if_neg (by simp [hne, kRead])]
  simp only [List.headD_cons]
  have g1 : (kRead == kGlob) = false := by decide
  have g2 : (kRead == kFirst) = false := by decide
  have g3 : (kRead == kExists || kRead == kList || kRead == kRead) = true := by decide
  simp only [g1, g2, g3, Bool.false_eq_true, if_false, if_true, List.length_cons, List.length_nil, Nat.zero_add, Nat.reduceAdd]
  have := places_two (a := kRead) (p := p) (by decide)
  rw [this, if_pos hp]
theorem ask_read {r : RSt} {n : Int} {es : Ents} (hfd : findL r.all n = some (toF (filesE es))) (h : WFE es) (h5 : heightE es ≤ 5) {f : NF} (hf : f ∈ filesE es) : askR r n (readOf (joinP f.1)) = (61 :: f.2, 0) := by
  have ho := file_ok h h5 hf
  have hp : isPlaceL (joinP f.1) = true := by unfold isPlaceL; rw [ho.path]; rfl
  rw [askR_ok hfd (check_read ho), split_read (fun b hb => (ho.free b hb).1), answerL_read (p := joinP f.1) rfl rfl, read_tree h hp]
  have hN := (valid_files h).1 f hf
  have e : placeL (joinP f.1) = f.1 := by
    rcases place_ok hp with e | ⟨_, _, h3, _⟩
    · have := ho.path
      rw [e] at this
      exact absurd this (by decide)
    · rw [h3, hN.split]
  rw [e]
  obtain ⟨p, d⟩ := f
  have h1 := (mem_root h p d).1 hf
  unfold fileAt at h1
  unfold readT
  revert h1
  cases sub (.dir es) p with
  | none => intro h1; simp at h1
  | some t =>
    cases t with
    | file d' => intro h1; simp at h1; simp [h1]
    | dir _ => intro h1; simp at h1

end Go.Proofs.YtdcbgfhkfmohiaaGreatDoor

/- The statements about what a store tells of itself: dump. -/
namespace Go.Proofs.YtdcbgfhkfmohiaaGreatDoor
open Go.RowKit
attribute [local go_sem] Oper.semAt_some

def flatK (l : List Fl) : List Value := l.flatMap fun f => [SV f.1, SV f.2]
def FilesK (base : Nat) (w : World) (v : Value) (l : List Fl) : Prop := w.ownsRow base 50 2 v l.length (flatK l)
theorem Tryz.infoKFile : (Tryz.prog.info? 50).map (fun i => (i.zero, i.size, i.bytes)) = some (some (.agg #[.string ⟨#[]⟩, .string ⟨#[]⟩]), 2, 32) := by kernel_rfl
def KDump (w : World) (o : Option (List Fl)) (e : Ending) (w' : World) : Prop :=
  Below w.heap.size w w' ∧ match o with
    | none => e = .returned (.tuple #[.slice none 0 0, .bool false])
    | some l => ∃ v, e = .returned (.tuple #[v, .bool true]) ∧ FilesK w.heap.size w' v l
theorem flatK_push (l : List Fl) (f : Fl) : flatK (l ++ [f]) = flatK l ++ [SV f.1, SV f.2] := by simp [flatK]

set_option maxHeartbeats 4000000 in
set_option maxRecDepth 50000 in
theorem kDump_none (B : Bank) (r : RSt) (n : Int) (w : World) (hO : Okay w B) (ha : Agree B r) (hmx : MaxOk w) (hf : findL r.all n = none) :
    Calls Tryz.prog 19 #[ptrV B.sb, .int .i64 n] w fun e w' => KDump w none e w' := by
  have C : Hid (Calls Tryz.prog 32 #[ptrV B.sb, .int .i64 n, SV globAll] w fun e w' => DiffOut w ([], 2) e w') := by
    have := storeAsk_any B r n globAll w hO ha hmx
    rw [askR_none hf] at this
    exact this
  clear hO ha hmx hf
  go_enter Tryz.func19, Tryz.ntmps19
  go_wp2_with fail
  refine Calls.mono (show Calls _ _ _ _ _ from C.out) ?_
  rintro e w1 ⟨rfl, hb⟩
  have HB : Hid _ := hb
  clear hb C
  go_wp2
  go_ret2
  exact ⟨HB.out, rfl⟩

set_option maxHeartbeats 8000000 in
set_option maxRecDepth 50000 in
theorem kDump_some (B : Bank) (r : RSt) (n : Int) (es : Ents) (w : World) (hO : Okay w B) (ha : Agree B r) (hmx : MaxOk w) (hf : findL r.all n = some (toF (filesE es))) (hw : WFE es) (h5 : heightE es ≤ 5) (hfew : (filesE es).length ≤ 20) :
    Calls Tryz.prog 19 #[ptrV B.sb, .int .i64 n] w fun e w' => KDump w (some (toF (filesE es))) e w' := by
  have hap := app_list
  have hX := extract_list
  have hG := get_list
  have C : Hid (Calls Tryz.prog 32 #[ptrV B.sb, .int .i64 n, SV globAll] w fun e w' => DiffOut w ((toF (filesE es)).flatMap (fun f => f.1 ++ [10]), 0) e w') := by
    have := storeAsk_any B r n globAll w hO ha hmx
    rw [ask_all hf] at this
    exact this
  have HF : Hid (∀ f ∈ toF (filesE es), FileOk f.1 ∧ f.2.length ≤ 30 ∧ ∀ W, Below w.heap.size w W → Calls Tryz.prog 32 #[ptrV B.sb, .int .i64 n, SV (114 :: 101 :: 97 :: 100 :: 32 :: f.1)] W fun e w' => DiffOut W (61 :: f.2, 0) e w') := by
    intro f hm
    unfold toF at hm
    rw [List.mem_map] at hm
    obtain ⟨g, hg, rfl⟩ := hm
    refine ⟨file_ok hw h5 hg, (valid_files hw).2 g hg, fun W hW => ?_⟩
    have := storeAsk_any B r n (readOf (joinP g.1)) W (hO.below hW) ha (hmx.later hW)
    rw [ask_read hf hw h5 hg] at this
    exact this
  have hl20 : (toF (filesE es)).length ≤ 20 := by unfold toF; rw [List.length_map]; exact hfew
  generalize toF (filesE es) = l at *
  have HL : Hid ((l.flatMap (fun f => f.1 ++ [10])).length ≤ 2000) := by
    have := flatM_len (fun f : Fl => f.1 ++ [10]) 45 l (fun f hm => by have := (HF.out f hm).1.short; simp; omega)
    have h2 : l.length * 45 ≤ 20 * 45 := Nat.mul_le_mul_right _ hl20
    exact Nat.le_trans this (by omega)
  have HS : Hid (l.flatMap (fun f => f.1 ++ [10]) = (l.map (·.1)).flatMap (· ++ [10])) := by rw [Hid, List.flatMap_map]
  have HFR : Hid (∀ x ∈ l.map (·.1), ∀ b ∈ x, b ≠ 10) := by
    intro x hx b hb
    rw [List.mem_map] at hx
    obtain ⟨f, hm, rfl⟩ := hx
    exact ((HF.out f hm).1.free b hb).2
  clear hO ha hmx hf hw h5 hfew
  go_enter Tryz.func19, Tryz.ntmps19
  go_wp2_with fail
  refine Calls.mono (show Calls _ _ _ _ _ from C.out) ?_
  rintro e w1 ⟨rfl, hb1⟩
  have C1 : Hid _ := kLines_any (l.flatMap (fun f => f.1 ++ [10])) w1 (by have := HL.out; omega)
  have HB1 : Hid _ := hb1
  clear hb1 C
  go_wp2_with fail
  refine Calls.mono (show Calls _ _ _ _ _ from C1.out) ?_
  rintro e w2 ⟨v, xs, rest, rfl, hown, hb2, hsp⟩
  rw [HS.out] at hsp
  obtain ⟨rfl, rfl⟩ := lines_of HFR.out hsp
  have hb02 : Below w.heap.size w w2 := HB1.out.trans (hb2.mono HB1.out.size)
  rw [List.length_map] at hown
  have HC : Hid ((v = .slice none 0 0 ∧ l.length = 0) ∨ ∃ g cap, v = .slice (some ⟨g, 0, none⟩) l.length cap ∧ g < w2.heap.size ∧ l.length ≤ cap ∧ cap ≤ maxLen ∧ ∀ k (h : k < l.length), w2.cell? ⟨g, k, none⟩ = some (SV l[k].1)) := by
    rcases row_cells hown with h | ⟨g, cap, e, h1, _, h3, h4, h6⟩
    · exact .inl h
    · exact .inr ⟨g, cap, e, h1, h3, h4, fun k hk => (h6 k _ (by rw [List.getElem?_map, List.getElem?_map, List.getElem?_eq_getElem hk]; rfl)).trans rfl⟩
  have HB2 : Hid _ := hb02
  obtain ⟨ao, cap, rfl⟩ := row_form hown
  clear hown hb2 hb02 hsp C1 HS HFR HL
  go_wp2
  go_loopw [10, 11] (fun v i wr => ∃ k : Nat, k ≤ l.length ∧ i = .int .i64 k ∧ wr.ownsRow w2.heap.size 50 2 v k (flatK (l.take k)) ∧ Below w2.heap.size w2 wr) (fun _ i _ => l.length - (intOf i).toNat)
  case atStart => exact ⟨0, Nat.zero_le _, rfl, World.ownsRow_nil _ _ _ _, Below.refl _ _⟩
  case round =>
    obtain ⟨k, hk, rfl, hrow, hb⟩ := hrel
    by_cases hlt : k < l.length
    · have hki : (k : Int) < (l.length : Int) := by omega
      have hk50 : (k : Int) < 50 := by omega
      rcases HC.out with ⟨_, h0⟩ | ⟨g, cap', e, hg, hcap, hcm, hcell⟩
      · omega
      simp only [Value.slice.injEq] at e
      obtain ⟨rfl, -, rfl⟩ := e
      have ck : wr.cell? ⟨g, k, none⟩ = some (SV l[k].1) := (hb.cell (p := ⟨g, k, none⟩) hg).trans (hcell k hlt)
      have hgr : g < wr.heap.size := Nat.lt_of_lt_of_le hg hb.size
      obtain ⟨hfo, hdl, hask⟩ := HF.out l[k] (List.getElem_mem hlt)
      have C : Hid _ := hask wr (HB2.out.trans (hb.mono HB2.out.size))
      have hpl := hfo.short
      have HT : Hid (flatK (l.take (k + 1)) = flatK (l.take k) ++ [SV l[k].1, SV l[k].2]) := by rw [Hid, List.take_succ_eq_append_getElem hlt, flatK_push]
      generalize l[k].1 = pp at *
      generalize l[k].2 = dd at *
      have HB : Hid _ := hb
      obtain ⟨ao0, cap0, rfl⟩ := row_form hrow
      have HRW : Hid (Hid (wr.ownsRow w2.heap.size 50 2 (.slice ao0 k cap0) k (flatK (l.take k)))) := hrow
      clear hcell hask hfo hb hrow
      unfold maxLen at hcm
      go_wp2_with fail
      refine Calls.mono (show Calls _ _ _ _ _ from C.out) ?_
      rintro e w3 ⟨rfl, hb3⟩
      have hrow3 : w3.ownsRow w2.heap.size 50 2 (.slice ao0 k cap0) k (flatK (l.take k)) := rowKept HRW.out.out (fun j hj => hb3.block j (World.ownsRow.lt HRW.out.out j hj).2)
      have ck3 : w3.cell? ⟨g, k, none⟩ = some (SV pp) := (hb3.cell (p := ⟨g, k, none⟩) hgr).trans ck
      have HB3 : Hid (Below w2.heap.size w2 w3) := HB.out.trans (hb3.mono HB.out.size)
      have hgr3 : g < w3.heap.size := Nat.lt_of_lt_of_le hgr hb3.size
      have hz3 : w2.heap.size ≤ w3.heap.size := HB3.out.size
      clear hb3 C ck HRW HB hgr
      go_wp2
      go_region_law (refine step_app_at 39 50 _ 2 32 Tryz.infoKFile Tryz.underlying39 rfl (by decide) rfl (.tmp 62) (.tmp 70) rfl hrow3 [SV pp, SV dd] rfl (by intro u hu; simp at hu; rcases hu with rfl | rfl <;> rfl) ⟨rfl, rfl, rfl, rfl⟩ rfl rfl (by unfold maxLen; omega) (by omega) hz3 ?_; intro v' w' hown' hg hmv; have HR4 := Hid.mk' (show w'.ownsRow w2.heap.size 50 2 v' (k + 1) (flatK (l.take (k + 1))) by rw [HT.out]; exact hown'); have HB4 := Hid.mk' (HB3.out.grown hg hz3 (fun j hj => (hrow3.lt j hj).1)); obtain ⟨ao', cap', rfl⟩ := row_form hown'; clear hown' hg hmv)
      all_goals
        go_wp2
        go_roundw
        case rel => exact ⟨k + 1, by omega, by go_num, HR4.out, HB4.out⟩
        case measure => simp [intOf]; omega
    · have hki : ¬ (k : Int) < (l.length : Int) := by omega
      obtain rfl : k = l.length := by omega
      rw [List.take_length] at hrow
      have R : Hid (KDump w (some l) (.returned (.tuple #[u10, .bool true])) wr) := ⟨HB2.out.trans (hb.mono HB2.out.size), u10, rfl, ownsRow_le hrow HB2.out.size⟩
      obtain ⟨ao0, cap0, rfl⟩ := row_form hrow
      clear hrow hb HC
      go_wp2
      go_ret2
      exact R.out

end Go.Proofs.YtdcbgfhkfmohiaaGreatDoor

/- The statements about what a store tells of itself: value, same. -/
namespace Go.Proofs.YtdcbgfhkfmohiaaGreatDoor
open Go.RowKit
attribute [local go_sem] Oper.semAt_some

theorem filesK_cells {base : Nat} {w : World} {v : Value} {l : List Fl} (h : FilesK base w v l) :
    (v = .slice none 0 0 ∧ l = []) ∨ ∃ g cap, v = .slice (some ⟨g, 0, none⟩) l.length cap ∧ g < w.heap.size ∧ l.length ≤ cap ∧ cap ≤ maxLen ∧ (∀ k (h : k < l.length), w.cell? ⟨g, k * 2, none⟩ = some (SV l[k].1)) ∧ (∀ k (h : k < l.length), w.cell? ⟨g, k * 2 + 1, none⟩ = some (SV l[k].2)) := by
  rcases row_cells h with ⟨h1, h2⟩ | ⟨g, cap, h1, h2, _, h3, h4, h5⟩
  · exact .inl ⟨h1, List.eq_nil_of_length_eq_zero h2⟩
  · refine .inr ⟨g, cap, h1, h2, h3, h4, fun k hk => h5 _ _ ?_, fun k hk => h5 _ _ ?_⟩
    · rw [Nat.mul_comm]; exact (flat_get l k hk).1
    · rw [Nat.mul_comm]; exact (flat_get l k hk).2
theorem FilesK.below {base : Nat} {w w' : World} {v : Value} {l : List Fl} (h : FilesK base w v l) (hb : Below w.heap.size w w') : FilesK base w' v l :=
  rowKept h fun k hk => hb.block k (World.ownsRow.lt h k hk).2

/-- The data of a file among files. -/
def valueK (l : List Fl) (p : Str) : Str × Bool := match l.find? (fun f => f.1 == p) with
  | some f => (f.2, true)
  | none => ([], false)
theorem valueK_hit {l : List Fl} {p : Str} {k : Nat} (hk : k < l.length) (he : (l[k].1 == p) = true) (hall : ∀ j (hj : j < l.length), j < k → (l[j].1 == p) = false) : valueK l p = (l[k].2, true) := by
  have : l.find? (fun f => f.1 == p) = some l[k] := by
    rw [List.find?_eq_some_iff_getElem]
    exact ⟨he, k, hk, rfl, fun j hj => by rw [hall j (by omega) hj]; rfl⟩
  unfold valueK; rw [this]
theorem valueK_miss {l : List Fl} {p : Str} (hall : ∀ j (hj : j < l.length), (l[j].1 == p) = false) : valueK l p = ([], false) := by
  have : l.find? (fun f => f.1 == p) = none := by
    rw [List.find?_eq_none]
    intro f hf
    obtain ⟨j, hj, rfl⟩ := List.getElem_of_mem hf
    rw [hall j hj]; simp
  unfold valueK; rw [this]

set_option maxHeartbeats 1000000 in
theorem kValue_any (base : Nat) (l : List Fl) (v : Value) (p : Str) (w : World) (hl : FilesK base w v l) :
    Calls Tryz.prog 24 #[v, SV p] w fun e w' => e = .returned (.tuple #[SV (valueK l p).1, .bool (valueK l p).2]) ∧ w' = w := by
  rcases filesK_cells hl with ⟨rfl, rfl⟩ | ⟨g, cap, rfl, hg, hc, hm, hp, hd⟩
  · go_enter Tryz.func24, Tryz.ntmps24
    go_wp2
    refine wp_loop_rounds 1 ?_; rw [rounds_succ]; go_wp2
    go_ret2
    exact ⟨rfl, rfl⟩
  · unfold maxLen at hm
    clear hl
    go_enter Tryz.func24, Tryz.ntmps24
    go_wp2
    go_loop [6] (fun i => ∃ k : Nat, k ≤ l.length ∧ i = .int .i64 k ∧ ∀ j (hj : j < l.length), j < k → (l[j].1 == p) = false) (fun i => l.length - (intOf i).toNat)
    case atStart => exact ⟨0, Nat.zero_le _, rfl, fun j _ h => by omega⟩
    case round =>
      obtain ⟨k, hk, rfl, hall⟩ := hrel
      by_cases hlt : k < l.length
      · cases he : (l[k].1 == p)
        · have R := below_step (q := fun f => f.1 == p) hlt hall he
          clear hall
          go_wp2
          go_round
          case rel => exact ⟨k + 1, by omega, by go_num, R⟩
          case measure => simp [intOf]; omega
        · have R : Hid _ := valueK_hit hlt he hall
          clear hall
          go_wp2
          go_ret2
          exact ⟨by rw [R.out]; rfl, rfl⟩
      · have R : Hid _ := valueK_miss (p := p) (fun j hj => hall j hj (by omega))
        clear hall
        go_wp2
        go_ret2
        exact ⟨by rw [R.out]; rfl, rfl⟩

end Go.Proofs.YtdcbgfhkfmohiaaGreatDoor

/- The statements about what a store tells of itself: same. -/
namespace Go.Proofs.YtdcbgfhkfmohiaaGreatDoor
open Go.RowKit
attribute [local go_sem] Oper.semAt_some

def KBool (w : World) (b : Bool) (e : Ending) (w' : World) : Prop := e = .returned (.bool b) ∧ Below w.heap.size w w'
theorem take_step {a b : List Fl} {k : Nat} (ha : k < a.length) (hb : k < b.length) (h : a.take k = b.take k) (e : a[k] = b[k]) : a.take (k + 1) = b.take (k + 1) := by
  rw [List.take_succ_eq_append_getElem ha, List.take_succ_eq_append_getElem hb, h, e]

set_option maxHeartbeats 4000000 in
set_option maxRecDepth 50000 in
theorem kSame_any (ba bb : Nat) (a b : List Fl) (va vb : Value) (w : World) (hA : FilesK ba w va a) (hB : FilesK bb w vb b) :
    Calls Tryz.prog 21 #[va, vb] w fun e w' => KBool w (decide (a = b)) e w' := by
  obtain ⟨aoa, capa, rfl⟩ := row_form hA
  obtain ⟨aob, capb, rfl⟩ := row_form hB
  by_cases hl : a.length = b.length
  · have HL : Hid (a.length = b.length) := hl
    have HCA : Hid _ := filesK_cells hA
    have HCB : Hid _ := filesK_cells hB
    rw [← hl]
    clear hA hB hl
    go_enter Tryz.func21, Tryz.ntmps21
    go_wp2
    go_loopw [5] (fun i wr => ∃ k : Nat, k ≤ a.length ∧ i = .int .i64 k ∧ a.take k = b.take k ∧ Below w.heap.size w wr) (fun i _ => a.length - (intOf i).toNat)
    case atStart => exact ⟨0, Nat.zero_le _, rfl, by simp, Below.refl _ _⟩
    case round =>
      obtain ⟨k, hk, rfl, htk, hb⟩ := hrel
      have HB : Hid _ := hb
      by_cases hlt : k < a.length
      · have hltb : k < b.length := by have := HL.out; omega
        have hki : (k : Int) < (a.length : Int) := by omega
        rcases HCA.out with ⟨_, h0⟩ | ⟨ga, ca, ea, hga, hca, hma, hpa, hda⟩
        · rw [h0] at hlt; simp at hlt
        rcases HCB.out with ⟨_, h0⟩ | ⟨gb, cb, eb, hgb, hcb, hmb, hpb, hdb⟩
        · rw [h0] at hltb; simp at hltb
        simp only [Value.slice.injEq] at ea eb
        obtain ⟨rfl, -, rfl⟩ := ea
        obtain ⟨rfl, -, rfl⟩ := eb
        have p1 : wr.cell? ⟨ga, k * 2, none⟩ = some (SV a[k].1) := (hb.cell (p := ⟨ga, k * 2, none⟩) hga).trans (hpa k hlt)
        have p2 : wr.cell? ⟨ga, k * 2 + 1, none⟩ = some (SV a[k].2) := (hb.cell (p := ⟨ga, k * 2 + 1, none⟩) hga).trans (hda k hlt)
        have p3 : wr.cell? ⟨gb, k * 2, none⟩ = some (SV b[k].1) := (hb.cell (p := ⟨gb, k * 2, none⟩) hgb).trans (hpb k hltb)
        have p4 : wr.cell? ⟨gb, k * 2 + 1, none⟩ = some (SV b[k].2) := (hb.cell (p := ⟨gb, k * 2 + 1, none⟩) hgb).trans (hdb k hltb)
        have hgar : ga < wr.heap.size := Nat.lt_of_lt_of_le hga hb.size
        have hgbr : gb < wr.heap.size := Nat.lt_of_lt_of_le hgb hb.size
        have HE : Hid (a[k] = b[k] → a.take (k + 1) = b.take (k + 1)) := take_step hlt hltb htk
        have HNE : Hid (¬ a[k] = b[k] → decide (a = b) = false) := fun h => by
          rw [decide_eq_false_iff_not]
          intro e
          subst e
          exact h rfl
        rw [← HL.out] at hcb
        unfold maxLen at hma hmb
        clear hpa hda hpb hdb htk hb
        generalize ha' : a[k] = fa at *
        generalize hb' : b[k] = fb at *
        obtain ⟨a1, a2⟩ := fa
        obtain ⟨b1, b2⟩ := fb
        by_cases e1 : a1 = b1
        · by_cases e2 : a2 = b2
          · subst e1 e2
            clear ha' hb'
            have R : Hid _ := HE.out rfl
            clear HE HNE
            go_wp2
            go_quiet (fail)
            go_wp2
            go_roundw
            case rel => exact ⟨k + 1, by omega, by go_num, R.out, below_drewN HB.out _⟩
            case measure => simp [intOf]; omega
          · have R : Hid (decide (a = b) = false) := HNE.out (fun e => e2 (congrArg Prod.snd e))
            subst e1
            clear HE HNE ha' hb'
            go_wp2
            go_quiet (fail)
            go_wp2
            go_ret
            exact ⟨by rw [R.out]; rfl, below_drewN HB.out _⟩
        · have R : Hid (decide (a = b) = false) := HNE.out (fun e => e1 (congrArg Prod.fst e))
          clear HE HNE ha' hb'
          go_wp2
          go_quiet (fail)
          go_wp2
          go_ret
          exact ⟨by rw [R.out]; rfl, below_drewN HB.out _⟩
      · have hki : ¬ (k : Int) < (a.length : Int) := by omega
        have R : Hid (KBool w (decide (a = b)) (.returned (.bool true)) wr) := by
          have e : a = b := by
            rw [List.take_of_length_le (by omega), List.take_of_length_le (by have := HL.out; omega)] at htk
            exact htk
          exact ⟨by rw [decide_eq_true e], hb⟩
        clear htk hb HCA HCB
        go_wp2
        go_ret
        exact R.out
  · have hli : ¬ (a.length : Int) = (b.length : Int) := by omega
    have R : Hid (KBool w (decide (a = b)) (.returned (.bool false)) w) := ⟨by rw [decide_eq_false (fun e => hl (by rw [e]))], Below.refl _ _⟩
    clear hA hB
    go_enter Tryz.func21, Tryz.ntmps21
    go_wp2
    go_ret
    exact R.out

end Go.Proofs.YtdcbgfhkfmohiaaGreatDoor

/- The statements about what a store tells of itself: below, first. -/
namespace Go.Proofs.YtdcbgfhkfmohiaaGreatDoor
open Go.RowKit
attribute [local go_sem] Oper.semAt_some

set_option maxHeartbeats 400000 in
theorem kBelow_any (p d : Str) (w : World) (_hp : p.length ≤ maxLen) (hd : d.length < maxLen) (hr : (d == [47]) = false) :
    Calls Tryz.prog 26 #[.string ⟨p.toArray⟩, .string ⟨d.toArray⟩] w fun e w' => e = .returned (.string ⟨(belowL p d).toArray⟩) ∧ w' = w := by
  unfold maxLen at _hp hd
  have hX := extract_list
  have hG := get_list
  go_enter Tryz.func26, Tryz.ntmps26
  go_wp2
  · go_ret
    rename_i h1 h2 hl h
    refine ⟨?_, rfl⟩
    rw [belowL_yes hr h1 (by simpa using h2) hl (by simpa [hG] using h)]
    simp [List.take_of_length_le]
  · go_ret
    rename_i h1 h2 hl h
    refine ⟨?_, rfl⟩
    rw [belowL_no3 hr hl (by simpa [hG] using h)]
    rfl
  · go_ret
    rename_i h1 h2
    exact ⟨by rw [belowL_no2 hr (by simpa using h2)]; rfl, rfl⟩
  · go_ret
    rename_i h1
    exact ⟨by rw [belowL_no1 hr (by simpa using h1)]; rfl, rfl⟩

end Go.Proofs.YtdcbgfhkfmohiaaGreatDoor

/- The statements about what a store tells of itself: cut. -/
namespace Go.Proofs.YtdcbgfhkfmohiaaGreatDoor
open Go.RowKit
attribute [local go_sem] Oper.semAt_some

/-- A text up to a slash, and behind it. -/
def cutK (s : Str) : Str × Str × Bool := match s.findIdx? (· == 47) with
  | some k => (s.take k, s.drop (k + 1), true)
  | none => (s, [], false)
theorem cutK_hit {s : Str} {k : Nat} (hk : k < s.length) (he : (s[k] == 47) = true) (hall : ∀ j (hj : j < s.length), j < k → (s[j] == 47) = false) : cutK s = (s.take k, s.drop (k + 1), true) := by
  have : s.findIdx? (· == 47) = some k := by
    rw [List.findIdx?_eq_some_iff_getElem]
    exact ⟨hk, he, fun j hj => by rw [hall j (by omega) hj]; simp⟩
  unfold cutK; rw [this]
theorem cutK_miss {s : Str} (hall : ∀ j (hj : j < s.length), (s[j] == 47) = false) : cutK s = (s, [], false) := by
  have : s.findIdx? (· == 47) = none := by
    rw [List.findIdx?_eq_none_iff]
    intro b hb
    obtain ⟨j, hj, rfl⟩ := List.getElem_of_mem hb
    exact hall j hj
  unfold cutK; rw [this]

def KCut (w : World) (o : Str × Str × Bool) (e : Ending) (w' : World) : Prop := e = .returned (.tuple #[SV o.1, SV o.2.1, .bool o.2.2]) ∧ Below w.heap.size w w'

set_option maxHeartbeats 4000000 in
set_option maxRecDepth 50000 in
theorem kCut_any (s : Str) (w : World) (hs : s.length ≤ 5000) : Calls Tryz.prog 34 #[SV s] w fun e w' => KCut w (cutK s) e w' := by
  have hX := extract_list
  have hG := get_list
  go_enter Tryz.func34, Tryz.ntmps34
  go_wp2
  go_loop [5] (fun i => ∃ k : Nat, k ≤ s.length ∧ i = .int .i64 k ∧ ∀ j (hj : j < s.length), j < k → (s[j] == 47) = false) (fun i => s.length - (intOf i).toNat)
  case atStart => exact ⟨0, Nat.zero_le _, rfl, fun j _ h => by omega⟩
  case round =>
    obtain ⟨k, hk, rfl, hall⟩ := hrel
    by_cases hlt : k < s.length
    · have hki : (k : Int) < (s.length : Int) := by omega
      cases hc : (((s[k]).toNat : Int) == 47)
      · have hne : (s[k] == 47) = false := by
          rw [beq_eq_false_iff_ne]
          intro e; rw [e] at hc; simp at hc
        have R : ∀ j (hj : j < s.length), j < k + 1 → (s[j] == 47) = false := fun j hj hjk => by
          by_cases h : j < k
          · exact hall j hj h
          · obtain rfl : j = k := by omega
            exact hne
        clear hall hne
        go_wp2
        go_round
        case rel => exact ⟨k + 1, by omega, by go_num, R⟩
        case measure => simp [intOf]; omega
      · have he : (s[k] == 47) = true := by
          simp at hc
          rw [beq_iff_eq]
          exact UInt8.toNat_inj.1 (by rw [show (47 : UInt8).toNat = 47 from rfl]; omega)
        have R : Hid _ := cutK_hit hlt he hall
        clear hall he
        go_wp2
        go_quiet (fail)
        go_wp2
        refine bodyPost_ret (results_tmp3 (t := 2) (u := 3) (v := 4) rfl _ _ _) rfl ?_
        rw [R.out]
        refine ⟨?_, below_drewN (Below.refl _ _) _⟩
        rw [show (s.drop (k + 1)).take (s.length - (k + 1)) = s.drop (k + 1) from List.take_of_length_le (by simp)]
        rfl
    · have hki : ¬ (k : Int) < (s.length : Int) := by omega
      have R : Hid _ := cutK_miss (s := s) (fun j hj => hall j hj (by omega))
      clear hall
      go_wp2
      refine bodyPost_ret (results_tmp3 (t := 2) (u := 3) (v := 4) rfl _ _ _) rfl ?_
      rw [R.out]
      exact ⟨rfl, Below.refl _ _⟩

end Go.Proofs.YtdcbgfhkfmohiaaGreatDoor

/- The statements about what a store tells of itself: less. -/
namespace Go.Proofs.YtdcbgfhkfmohiaaGreatDoor
open Go.RowKit
attribute [local go_sem] Oper.semAt_some

/-- A slash is below all bytes of names. -/
def keyB (b : UInt8) : Nat := if b = 47 then 0 else b.toNat
def lessK : Str → Str → Bool
  | x :: a, y :: b => if keyB x = keyB y then lessK a b else decide (keyB x < keyB y)
  | [], b => decide (0 < b.length)
  | _ :: _, [] => false
theorem lessK_at {a b : Str} {k : Nat} (ha : k < a.length) (hb : k < b.length) (h : ∀ j (h1 : j < a.length) (h2 : j < b.length), j < k → keyB a[j] = keyB b[j]) (hne : ¬ keyB a[k] = keyB b[k]) : lessK a b = decide (keyB a[k] < keyB b[k]) := by
  induction k generalizing a b with
  | zero =>
    cases a with
    | nil => simp at ha
    | cons x a =>
      cases b with
      | nil => simp at hb
      | cons y b => simp only [List.getElem_cons_zero] at hne ⊢; rw [lessK, if_neg hne]
  | succ k ih =>
    cases a with
    | nil => simp at ha
    | cons x a =>
      cases b with
      | nil => simp at hb
      | cons y b =>
        have h0 := h 0 (by simp) (by simp) (by omega)
        simp only [List.getElem_cons_zero] at h0
        simp only [List.getElem_cons_succ] at hne ⊢
        rw [lessK, if_pos h0]
        exact ih (by simpa using ha) (by simpa using hb) (fun j h1 h2 hj => h (j + 1) (by simpa using h1) (by simpa using h2) (by omega)) hne
theorem lessK_end {a b : Str} (h : ∀ j (h1 : j < a.length) (h2 : j < b.length), keyB a[j] = keyB b[j]) : lessK a b = decide (a.length < b.length) := by
  induction a generalizing b with
  | nil => cases b <;> rfl
  | cons x a ih =>
    cases b with
    | nil => simp [lessK]
    | cons y b =>
      have h0 := h 0 (by simp) (by simp)
      simp only [List.getElem_cons_zero] at h0
      rw [lessK, if_pos h0, ih (fun j h1 h2 => h (j + 1) (by simpa using h1) (by simpa using h2))]
      simp

set_option maxHeartbeats 4000000 in
set_option maxRecDepth 50000 in
theorem kLess_any (a b : Str) (w : World) (ha : a.length ≤ 5000) : Calls Tryz.prog 30 #[SV a, SV b] w fun e w' => e = .returned (.bool (lessK a b)) ∧ w' = w := by
  have hG := get_list
  go_enter Tryz.func30, Tryz.ntmps30
  go_wp2
  go_loop [5] (fun i => ∃ k : Nat, k ≤ a.length ∧ i = .int .i64 k ∧ ∀ j (h1 : j < a.length) (h2 : j < b.length), j < k → keyB a[j] = keyB b[j]) (fun i => a.length - (intOf i).toNat)
  case atStart => exact ⟨0, Nat.zero_le _, rfl, fun j _ _ h => by omega⟩
  case round =>
    obtain ⟨k, hk, rfl, hall⟩ := hrel
    by_cases hlt : k < a.length
    · have hki : (k : Int) < (a.length : Int) := by omega
      by_cases hltb : k < b.length
      · have hkb : (k : Int) < (b.length : Int) := by omega
        have ca := (a[k]).toNat_lt
        have cb := (b[k]).toNat_lt
        have RE : Hid (keyB a[k] = keyB b[k] → ∀ j (h1 : j < a.length) (h2 : j < b.length), j < k + 1 → keyB a[j] = keyB b[j]) := fun he j h1 h2 hj => by
          by_cases h : j < k
          · exact hall j h1 h2 h
          · obtain rfl : j = k := by omega
            exact he
        have RN : Hid _ := lessK_at hlt hltb hall
        have HKA : Hid (keyB a[k] = if (a[k].toNat : Int) = 47 then 0 else a[k].toNat) := by
          rw [Hid, keyB]
          by_cases e : a[k] = 47
          · rw [if_pos e, if_pos (by rw [e]; rfl)]
          · rw [if_neg e, if_neg (fun h => e (UInt8.toNat_inj.1 (by rw [show (47 : UInt8).toNat = 47 from rfl]; omega)))]
        have HKB : Hid (keyB b[k] = if (b[k].toNat : Int) = 47 then 0 else b[k].toNat) := by
          rw [Hid, keyB]
          by_cases e : b[k] = 47
          · rw [if_pos e, if_pos (by rw [e]; rfl)]
          · rw [if_neg e, if_neg (fun h => e (UInt8.toNat_inj.1 (by rw [show (47 : UInt8).toNat = 47 from rfl]; omega)))]
        clear hall
        by_cases ea : (a[k].toNat : Int) = 47
        · by_cases eb : (b[k].toNat : Int) = 47
          · have hka := HKA.out
            have hkb' := HKB.out
            rw [if_pos ea] at hka
            rw [if_pos eb] at hkb'
            by_cases hx : keyB a[k] = keyB b[k]
            · have R : Hid _ := RE.out hx
              have hxi : ((0 : Int) = 0) := by omega
              clear RE RN HKA HKB hka hkb' hx
              go_wp2
              go_round
              case rel => exact ⟨k + 1, by omega, by go_num, R.out⟩
              case measure => simp [intOf]; omega
            · exact absurd (hka.trans hkb'.symm) hx
          · have hka := HKA.out
            have hkb' := HKB.out
            rw [if_pos ea] at hka
            rw [if_neg eb] at hkb'
            by_cases hx : keyB a[k] = keyB b[k]
            · have R : Hid _ := RE.out hx
              have hxi : ((0 : Int) = (b[k].toNat : Int)) := by omega
              clear RE RN HKA HKB hka hkb' hx
              go_wp2
              go_round
              case rel => exact ⟨k + 1, by omega, by go_num, R.out⟩
              case measure => simp [intOf]; omega
            · have R : Hid (lessK a b = decide ((0 : Int) < (b[k].toNat : Int))) := by
                rw [Hid, RN.out hx, decide_eq_decide]
                omega
              have hxi : ¬ ((0 : Int) = (b[k].toNat : Int)) := by omega
              clear RE RN HKA HKB hka hkb' hx
              go_wp2
              go_ret
              exact ⟨by rw [R.out]; simp, rfl⟩
        · by_cases eb : (b[k].toNat : Int) = 47
          · have hka := HKA.out
            have hkb' := HKB.out
            rw [if_neg ea] at hka
            rw [if_pos eb] at hkb'
            by_cases hx : keyB a[k] = keyB b[k]
            · have R : Hid _ := RE.out hx
              have hxi : (((a[k].toNat : Int) : Int) = 0) := by omega
              clear RE RN HKA HKB hka hkb' hx
              go_wp2
              go_round
              case rel => exact ⟨k + 1, by omega, by go_num, R.out⟩
              case measure => simp [intOf]; omega
            · have R : Hid (lessK a b = decide (((a[k].toNat : Int) : Int) < 0)) := by
                rw [Hid, RN.out hx, decide_eq_decide]
                omega
              have hxi : ¬ (((a[k].toNat : Int) : Int) = 0) := by omega
              clear RE RN HKA HKB hka hkb' hx
              go_wp2
              go_ret
              exact ⟨by rw [R.out]; simp, rfl⟩
          · have hka := HKA.out
            have hkb' := HKB.out
            rw [if_neg ea] at hka
            rw [if_neg eb] at hkb'
            by_cases hx : keyB a[k] = keyB b[k]
            · have R : Hid _ := RE.out hx
              have hxi : (((a[k].toNat : Int) : Int) = (b[k].toNat : Int)) := by omega
              clear RE RN HKA HKB hka hkb' hx
              go_wp2
              go_round
              case rel => exact ⟨k + 1, by omega, by go_num, R.out⟩
              case measure => simp [intOf]; omega
            · have R : Hid (lessK a b = decide (((a[k].toNat : Int) : Int) < (b[k].toNat : Int))) := by
                rw [Hid, RN.out hx, decide_eq_decide]
                omega
              have hxi : ¬ (((a[k].toNat : Int) : Int) = (b[k].toNat : Int)) := by omega
              clear RE RN HKA HKB hka hkb' hx
              go_wp2
              go_ret
              exact ⟨by rw [R.out]; simp, rfl⟩
      · have hkb : ¬ (k : Int) < (b.length : Int) := by omega
        have R : Hid _ := lessK_end (a := a) (b := b) (fun j h1 h2 => hall j h1 h2 (by omega))
        clear hall
        go_wp2
        go_ret
        exact ⟨by rw [R.out]; simp, rfl⟩
    · have hki : ¬ (k : Int) < (a.length : Int) := by omega
      have R : Hid _ := lessK_end (a := a) (b := b) (fun j h1 h2 => hall j h1 h2 (by omega))
      clear hall
      go_wp2
      go_ret
      exact ⟨by rw [R.out]; simp, rfl⟩

end Go.Proofs.YtdcbgfhkfmohiaaGreatDoor

/- What the statements' examples answer; the statements' edits in pure words. No program. -/
namespace Go.Proofs.YtdcbgfhkfmohiaaGreatDoor
open Go.RowKit
deriving instance DecidableEq for RSt

def srcA : Str := [115, 114, 99, 47, 97, 46, 99]
def libA : Str := [108, 105, 98, 47, 97, 46, 99]
def lsrA : Str := [108, 105, 98, 47, 115, 114, 99, 47, 97, 46, 99]
def tSrc : Str := [115, 114, 99]
def tLsr : Str := [108, 105, 98, 47, 115, 114, 99]
def tX : Str := [120]
def tAll : Str := [97, 108, 108]
def qGlob : Str := [103, 108, 111, 98, 32, 42, 42, 47, 42, 46, 99]
def qFirst : Str := [102, 105, 114, 115, 116, 32, 97, 46, 99, 32, 105, 110, 99, 32, 115, 114, 99, 32, 108, 105, 98]
def qSrc : Str := [103, 108, 111, 98, 32, 115, 114, 99, 47, 42, 46, 99]
def exR1 : RSt := ⟨20, 2, [(0, []), (1, [(srcA, tX)])]⟩
def exR2 : RSt := ⟨20, 3, [(0, []), (1, [(srcA, tX)]), (2, [(libA, tX), (srcA, tX)])]⟩
def exR3 : RSt := ⟨20, 4, [(0, []), (1, [(srcA, tX)]), (2, [(libA, tX), (srcA, tX)]), (3, [(libA, tX), (lsrA, tX)])]⟩
theorem ex_put1 : putR (newR 20) 0 srcA tX = (exR1, 1, 0) := by decide +kernel
theorem ex_cells1 : cellsOf exR1 = 4 := by decide +kernel
theorem ex_put2 : putR exR1 1 libA tX = (exR2, 2, 0) := by decide +kernel
theorem ex_cells2 : cellsOf exR2 = 5 := by decide +kernel
theorem ex_diff : diffR exR2 1 2 = (43 :: (libA ++ [10]), 0) := by decide +kernel
theorem ex_move : moveR exR2 2 tSrc tLsr = (exR3, 3, 0) := by decide +kernel
theorem ex_glob : askR exR3 2 qGlob = (libA ++ [10] ++ srcA ++ [10], 0) := by decide +kernel
theorem ex_first : askR exR3 2 qFirst = (srcA, 0) := by decide +kernel
theorem ex_rule : ruleE [] tAll [qSrc] = 0 := by decide +kernel
def exQ : Qn := .gl (patO [115, 114, 99, 47, 42, 46, 99])
theorem ex_qn : qnOf (splitL 32 qSrc) = some exQ := by unfold exQ; kernel_rfl
theorem ex_fault : faultQ exQ = 0 := by decide +kernel
theorem ex_view : ruleV [] tAll [qSrc] = [⟨tAll, [exQ], []⟩] := by
  unfold ruleV
  rw [if_pos ex_rule, if_neg (by simp), setV, if_neg (by simp), qnsL, List.map_singleton, ex_qn]
  rfl
theorem ex_ans {es : Ents} (hw : WFE es) (h5 : heightE es ≤ 5) : answerQ es exQ = answerL (toF (filesE es)) (splitL 32 qSrc) := answer_tree hw h5 ex_qn ex_fault
theorem ex_ans1 : answerL [(srcA, tX)] (splitL 32 qSrc) = srcA ++ [10] := by decide +kernel
theorem ex_ans2 : answerL [(libA, tX), (srcA, tX)] (splitL 32 qSrc) = srcA ++ [10] := by decide +kernel
theorem ex_ans3 : answerL [(libA, tX), (lsrA, tX)] (splitL 32 qSrc) = [] := by decide +kernel
theorem ex_find1 : findL exR3.all 1 = some [(srcA, tX)] := by decide +kernel
theorem ex_find2 : findL exR3.all 2 = some [(libA, tX), (srcA, tX)] := by decide +kernel
theorem ex_find3 : findL exR3.all 3 = some [(libA, tX), (lsrA, tX)] := by decide +kernel
theorem ex_line {es : Ents} (a : List Str) : (srt [⟨tAll, [exQ], a⟩]).flatMap (lineP es [⟨tAll, [exQ], a⟩]) = if [answerQ es exQ] = a then [] else tAll ++ [10] := by
  have e : srt [⟨tAll, [exQ], a⟩] = [tAll] := by unfold srt; simp
  rw [e]
  simp only [List.flatMap_cons, List.flatMap_nil, List.append_nil, lineP, List.any_cons, List.any_nil, Bool.or_false, nowQ, List.map_cons, List.map_nil]
  by_cases h : [answerQ es exQ] = a
  · rw [if_pos h]; simp [h]
  · rw [if_neg h]; simp [h]
theorem ex_built {es : Ents} (a : List Str) : builtV es [⟨tAll, [exQ], a⟩] = [⟨tAll, [exQ], [answerQ es exQ]⟩] := by simp [builtV, nowQ]

def kR1 (p d : Str) : RSt := ⟨200, 2, [(0, []), (1, [(p, d)])]⟩
def kR0 : RSt := ⟨200, 2, [(0, [])]⟩
theorem k_puts : ∀ k : Fin 84, ∀ m : Fin 5, putR (newR 200) 0 (pathK k.1) (datK m.1) = (kR1 (pathK k.1) (datK m.1), 1, 0) := by decide +kernel
theorem k_put {k m : Nat} (hk : k < 84) (hm : m < 5) : putR (newR 200) 0 (pathK k) (datK m) = (kR1 (pathK k) (datK m), 1, 0) := k_puts ⟨k, hk⟩ ⟨m, hm⟩
theorem k_gone (p d : Str) : releaseR (kR1 p d) 1 = (kR0, 0) := by rfl
theorem k_find (p d : Str) : findL (kR1 p d).all 1 = some [(p, d)] := by rfl

structure KStep where
  K : Int
  From : Int
  A : Int
  B : Int
def KStep.ok (o : KStep) : Prop := kIn o.K ∧ kIn o.From ∧ kIn o.A ∧ kIn o.B
def KStep.val (o : KStep) : Value := .agg #[.int .i64 o.K, .int .i64 o.From, .int .i64 o.A, .int .i64 o.B]
/-- What play answers. -/
def playR (r : RSt) (n : Int) (o : KStep) : RSt × Nat × Nat :=
  if kN o.K 6 < 3 then putR r n (pathK (kN o.A 84)) (datK (kN o.B 5))
  else if kN o.K 6 = 3 then deleteR r n (pathK (kN o.A 84))
  else if kN o.K 6 = 4 then moveR r n (pathK (kN o.A 84)) (pathK (kN o.B 84))
  else moveR r n (pathK (kN (o.A.tmod 20) 84)) (pathK (kN (o.B.tmod 20) 84))

end Go.Proofs.YtdcbgfhkfmohiaaGreatDoor
