/- The document's Spelled: does a part spell a name? -/
import Derived.Test.YtdcbgfhkfmohiaaGreatDoorKb19
namespace Go.Proofs.YtdcbgfhkfmohiaaGreatDoor
open Go.RowKit

/-- A row of truth values. -/
def BoolsAt (w : World) (g N : Nat) (f : Nat → Bool) : Prop := w.heap[g]? = some (.cells ((List.range N).map fun k => Value.bool (f k)).toArray 4 (0, 0))

theorem BoolsAt.cell {w : World} {g N : Nat} {f : Nat → Bool} (h : BoolsAt w g N f) {k : Nat} (hk : k < N) : w.cell? ⟨g, k, none⟩ = some (.bool (f k)) := by
  unfold BoolsAt at h
  simp [World.cell?, h, hk]
theorem BoolsAt.lt {w : World} {g N : Nat} {f : Nat → Bool} (h : BoolsAt w g N f) : g < w.heap.size := (Array.getElem?_eq_some_iff.1 h).1
theorem BoolsAt.frozen {w : World} {g N : Nat} {f : Nat → Bool} (h : BoolsAt w g N f) (k : Nat) : w.frozen? ⟨g, k, none⟩ = false := Lib.frozen_of_heap h k
theorem BoolsAt.set {w : World} {g N : Nat} {f : Nat → Bool} (h : BoolsAt w g N f) (k : Nat) (b : Bool) : BoolsAt (w.setCell ⟨g, k, none⟩ (.bool b)) g N (fun j => if j = k then b else f j) := by
  unfold BoolsAt at h ⊢
  simp only [World.setCell, Array.getElem?_modify, if_true, h, Option.map_some]
  congr 2
  apply Array.ext'
  apply List.ext_getElem?
  intro j
  simp [List.getElem?_set]
  by_cases hj : j < N
  · by_cases e : k = j
    · subst e; simp [hj]
    · have e' : ¬ j = k := fun h => e h.symm
      simp [hj, e, e']
  · simp [hj]
    intro e; omega
theorem BoolsAt.other {w : World} {g N : Nat} {f : Nat → Bool} (h : BoolsAt w g N f) {g' : Nat} (hg : g' ≠ g) (k : Nat) (v : Value) : BoolsAt (w.setCell ⟨g', k, none⟩ v) g N f := by
  unfold BoolsAt at h ⊢
  rw [Below.heap_setCell _ _ _ _ (fun e => hg e.symm)]; exact h
theorem BoolsAt.congr {w : World} {g N : Nat} {f f' : Nat → Bool} (h : BoolsAt w g N f) (he : ∀ k, k < N → f k = f' k) : BoolsAt w g N f' := by
  unfold BoolsAt at h ⊢
  rw [h]
  congr 3
  exact List.map_congr_left fun k hk => by rw [he k (List.mem_range.1 hk)]

theorem bools_step {w : World} {g N k : Nat} {F : Nat → Bool} (h : BoolsAt w g N fun j => if j < k then F j else false) {v : Bool} (hv : F k = v) : BoolsAt (w.setCell ⟨g, k, none⟩ (.bool v)) g N fun j => if j < k + 1 then F j else false :=
  (h.set k v).congr fun j _ => by
    by_cases e : j = k
    · subst e; simp [hv]
    · by_cases h1 : j < k
      · simp [e, h1, show j < k + 1 by omega]
      · simp [e, h1, show ¬ j < k + 1 by omega]
theorem bools_skip {w : World} {g N k : Nat} {F : Nat → Bool} (h : BoolsAt w g N fun j => if j < k then F j else false) (hv : F k = false) : BoolsAt w g N fun j => if j < k + 1 then F j else false :=
  h.congr fun j _ => by
    by_cases e : j = k
    · subst e; simp [hv]
    · by_cases h1 : j < k
      · simp [h1, show j < k + 1 by omega]
      · simp [h1, show ¬ j < k + 1 by omega]

theorem Tryz.infoBool : (Tryz.prog.info? 4).map (fun i => (i.zero, i.size, i.bytes)) = some (some (.bool false), 1, 1) := by kernel_rfl
theorem make_bools (n : Nat) (hn : n ≤ 1000) (W : World) : ∃ W', (Instr.makeSlice 30 (.int .i64 ((n : Int) + 1)) (.int .i64 ((n : Int) + 1))).run Tryz.prog W = .ok (.slice (some ⟨W.heap.size, 0, none⟩) (n + 1) (n + 1)) W' ∧ BoolsAt W' W.heap.size (n + 1) (fun _ => false) ∧ Below W.heap.size W W' := by
  obtain ⟨i, hi, hz0, hz1, hz2⟩ := info_parts Tryz.infoBool
  have h := run_makeSlice (P := Tryz.prog) W 30 4 i (.bool false) (by kernel_rfl) hi hz0 .i64 .i64 ((n : Int) + 1) ((n : Int) + 1) (by omega) (Int.le_refl _) (by rw [hz1]; omega) (by rw [hz2]; omega) (by omega)
  refine ⟨_, h, ?_, (Below.refl _ W).alloc (Nat.le_refl _) _⟩
  unfold BoolsAt
  have e : ((n : Int) + 1).toNat = n + 1 := by omega
  have e2 : madeCells (Value.bool false).cells (n + 1) = ((List.range (n + 1)).map fun _ => Value.bool false).toArray := by
    apply Array.ext'
    have e1 : (Value.bool false).cells = #[.bool false] := rfl
    simp [madeCells, e1, Nat.mod_one]
  rw [heap_alloc_new, hz1, e, Nat.mul_one, e2]

def starB (p : UInt8) : Bool := p == 42
def takesB (p c : UInt8) : Bool := p == 63 || p == c
/-- Does a part spell a name? -/
def spelledL (part name : Str) : Bool := laidL starB takesB part name

set_option maxHeartbeats 2000000 in
set_option maxRecDepth 100000 in
theorem spelled_any (part name : Str) (w : World) (hp : part.length ≤ 1000) (hn : name.length ≤ 1000) :
    Calls Tryz.prog 185 #[SV part, SV name] w fun e w' => e = .returned (.bool (spelledL part name)) ∧ Below w.heap.size w w' := by
  have hG := get_list
  have MB := make_bools name.length hn
  obtain ⟨w1, mk1, hB1, hb1⟩ := MB w
  have lt1 := hB1.lt
  have fz1 := hB1.frozen
  have c1 := hB1.cell (k := 0) (by omega)
  have HB1 : Hid (BoolsAt w1 w.heap.size (name.length + 1) fun _ => false) := hB1
  clear hB1
  go_enter Tryz.func185, Tryz.ntmps185
  go_wp2
  have HB1' : Hid (BoolsAt (w1.setCell ⟨w.heap.size, 0, none⟩ (.bool true)) w.heap.size (name.length + 1) (rowL starB takesB (part.take 0) name)) :=
    (HB1.out.set 0 true).congr fun k hk => by rw [List.take_zero, row_start name (by omega)]; by_cases h : k = 0 <;> simp [h]
  have hb1' : Hid (Below w.heap.size w (w1.setCell ⟨w.heap.size, 0, none⟩ (.bool true))) := hb1.setCell (p := ⟨w.heap.size, 0, none⟩) (Nat.le_refl _) _
  clear HB1 hb1 c1 fz1 lt1 mk1
  generalize w1.setCell ⟨w.heap.size, 0, none⟩ (.bool true) = w2 at *
  go_loopw [5, 6] (fun ok i wz => ∃ (x g : Nat), x ≤ part.length ∧ i = .int .i64 x ∧ w.heap.size ≤ g ∧ ok = .slice (some ⟨g, 0, none⟩) (name.length + 1) (name.length + 1) ∧ BoolsAt wz g (name.length + 1) (rowL starB takesB (part.take x) name) ∧ Below w.heap.size w wz) (fun _ i _ => part.length - (intOf i).toNat)
  case atStart => exact ⟨0, w.heap.size, Nat.zero_le _, rfl, Nat.le_refl _, rfl, HB1'.out, hb1'.out⟩
  case round =>
    obtain ⟨x, g, hx, rfl, hg, rfl, hB, hb⟩ := hrel
    clear HB1' hb1'
    by_cases hlt : x < part.length
    · obtain ⟨wy, mk, hBn, hbn⟩ := MB wr
      have ltn := hB.lt
      have HN0 : Hid (BoolsAt wy wr.heap.size (name.length + 1) (fun j => if j < 0 then rowL starB takesB (part.take (x + 1)) name j else false)) := hBn.congr fun k _ => by simp
      have HO0 : Hid (BoolsAt wy g (name.length + 1) (rowL starB takesB (part.take x) name)) := (hbn.block _ ltn).trans hB
      have HBy : Hid (Below w.heap.size w wy) := hb.trans (hbn.mono hb.size)
      have hgn : Hid (g < wr.heap.size) := ltn
      have hwn : Hid (w.heap.size ≤ wr.heap.size) := hb.size
      clear hBn hB hb hbn ltn
      generalize wr.heap.size = gn at *
      go_wp2
      go_loopw [8] (fun j wz => ∃ k : Nat, k ≤ name.length + 1 ∧ j = .int .i64 k ∧ BoolsAt wz gn (name.length + 1) (fun j => if j < k then rowL starB takesB (part.take (x + 1)) name j else false) ∧ BoolsAt wz g (name.length + 1) (rowL starB takesB (part.take x) name) ∧ Below w.heap.size w wz) (fun j _ => name.length + 1 - (intOf j).toNat)
      case atStart => exact ⟨0, Nat.zero_le _, rfl, HN0.out, HO0.out, HBy.out⟩
      case round =>
        obtain ⟨k, hk, rfl, hN, hO, hBz⟩ := hrel
        clear HN0 HO0 HBy
        by_cases hkl : k ≤ name.length
        · have cO := hO.cell (k := k) (by omega)
          have fN := hN.frozen k
          have ltN := hN.lt
          have tk : Hid (part.take (x + 1) = part.take x ++ [part[x]]) := List.take_succ_eq_append_getElem hlt
          have HN : Hid (BoolsAt wr gn (name.length + 1) (fun j => if j < k then rowL starB takesB (part.take (x + 1)) name j else false)) := hN
          have HO : Hid (BoolsAt wr g (name.length + 1) (rowL starB takesB (part.take x) name)) := hO
          have HBz : Hid (Below w.heap.size w wr) := hBz
          have cS : wr.cell? ⟨gn, k, none⟩ = some (.bool false) := (HN.out.cell (by omega)).trans (by rw [if_neg (by omega)])
          have done : Hid (∀ v : Bool, rowL starB takesB (part.take (x + 1)) name k = v → ∀ W, (W = wr ∨ ∃ q, W = wr.drewN q) → ∃ k' : Nat, k' ≤ name.length + 1 ∧ Value.int .i64 ((k : Int) + 1) = .int .i64 k' ∧ BoolsAt (W.setCell ⟨gn, k, none⟩ (.bool v)) gn (name.length + 1) (fun j => if j < k' then rowL starB takesB (part.take (x + 1)) name j else false) ∧ BoolsAt (W.setCell ⟨gn, k, none⟩ (.bool v)) g (name.length + 1) (rowL starB takesB (part.take x) name) ∧ Below w.heap.size w (W.setCell ⟨gn, k, none⟩ (.bool v))) := fun v hv W hW => by
            have hh : W.heap = wr.heap := by rcases hW with rfl | ⟨q, rfl⟩ <;> rfl
            have hbW : Below w.heap.size w W := by rcases hW with rfl | ⟨q, rfl⟩; exact HBz.out; exact below_drewN HBz.out _
            have h1 := HN.out
            have h2 := HO.out
            unfold BoolsAt at h1 h2
            rw [← hh] at h1 h2
            exact ⟨k + 1, by omega, rfl, bools_step h1 hv, BoolsAt.other h2 (by have := hgn.out; omega) _ _, hbW.setCell (p := ⟨gn, k, none⟩) hwn.out _⟩
          have skip : Hid (rowL starB takesB (part.take (x + 1)) name k = false → ∀ q, ∃ k' : Nat, k' ≤ name.length + 1 ∧ Value.int .i64 ((k : Int) + 1) = .int .i64 k' ∧ BoolsAt (wr.drewN q) gn (name.length + 1) (fun j => if j < k' then rowL starB takesB (part.take (x + 1)) name j else false) ∧ BoolsAt (wr.drewN q) g (name.length + 1) (rowL starB takesB (part.take x) name) ∧ Below w.heap.size w (wr.drewN q)) := fun hv q =>
            ⟨k + 1, by omega, rfl, bools_skip (w := wr.drewN q) HN.out hv, HO.out, below_drewN HBz.out _⟩
          have hkl' : (k : Int) ≤ name.length := by omega
          have hpx : ((part[x].toNat : Int) == 42) = starB part[x] := by unfold starB; rw [Bool.eq_iff_iff]; simp [← UInt8.toNat_inj]; omega
          clear hN hO hBz
          cases hst : starB part[x]
          · rw [hst] at hpx
            by_cases hk0 : k = 0
            · subst hk0
              have R : Hid (rowL starB takesB (part.take (x + 1)) name 0 = false) := by rw [Hid, tk.out]; exact row_one0 hst _ _
              have S : Hid _ := skip.out R.out
              clear done skip cO HN HO
              go_wp2
              go_quiet (fail)
              go_wp2
              go_roundw
              case rel => exact S.out _
              case measure => simp [intOf]
            · obtain ⟨j, rfl⟩ : ∃ j, k = j + 1 := ⟨k - 1, by omega⟩
              have hjl : j < name.length := by omega
              have cO' := HO.out.cell (k := j) (by omega)
              have R : Hid (rowL starB takesB (part.take (x + 1)) name (j + 1) = (takesB part[x] name[j] && rowL starB takesB (part.take x) name j)) := by rw [Hid, tk.out]; exact row_one hst _ _ hjl
              have hst2 : (part[x].toNat : Int) ≠ 42 := by simpa using hpx
              cases htk : takesB part[x] name[j]
              · have S : Hid _ := skip.out (by rw [R.out, htk, Bool.false_and])
                have t1 : ((part[x].toNat : Int) == 63) = false := by
                  unfold takesB at htk; simp [← UInt8.toNat_inj] at htk ⊢; omega
                have t2 : ((part[x].toNat : Int) == (name[j].toNat : Int)) = false := by
                  unfold takesB at htk; simp [← UInt8.toNat_inj] at htk ⊢; omega
                clear done skip cO HN HO cO' htk R
                go_wp2
                go_quiet (fail)
                go_wp2
                go_roundw
                case rel => exact S.out _
                case measure => simp [intOf]; omega
              · have S : Hid _ := done.out _ (by rw [R.out, htk, Bool.true_and])
                generalize rowL starB takesB (part.take x) name j = b at *
                by_cases t1 : ((part[x].toNat : Int) == 63) = true
                · clear done skip cO HN HO htk R
                  go_wp2
                  go_quiet (fail)
                  go_wp2
                  go_roundw
                  case rel => exact S.out _ (.inr ⟨_, rfl⟩)
                  case measure => simp [intOf]; omega
                · have t1' : ((part[x].toNat : Int) == 63) = false := by simpa using t1
                  have t2 : ((part[x].toNat : Int) == (name[j].toNat : Int)) = true := by
                    unfold takesB at htk; simp [← UInt8.toNat_inj] at htk t1 ⊢; omega
                  clear done skip cO HN HO htk R t1
                  go_wp2
                  go_quiet (fail)
                  go_wp2
                  go_roundw
                  case rel => exact S.out _ (.inr ⟨_, rfl⟩)
                  case measure => simp [intOf]; omega
          · rw [hst] at hpx
            by_cases hk0 : k = 0
            · subst hk0
              have R : Hid (rowL starB takesB (part.take (x + 1)) name 0 = rowL starB takesB (part.take x) name 0) := by rw [Hid, tk.out, row_run hst _ _ (Nat.zero_le _)]; simp
              have S : Hid _ := done.out _ R.out
              clear done skip HN HO
              generalize rowL starB takesB (part.take x) name 0 = b at *
              cases b
              all_goals
                go_wp2
                go_roundw
                case rel => exact S.out _ (.inl rfl)
                case measure => simp [intOf]
            · obtain ⟨j, rfl⟩ : ∃ j, k = j + 1 := ⟨k - 1, by omega⟩
              have hjl : j < name.length := by omega
              have cN := HN.out.cell (k := j) (by omega)
              rw [if_pos (by omega)] at cN
              have R : Hid (rowL starB takesB (part.take (x + 1)) name (j + 1) = (rowL starB takesB (part.take x) name (j + 1) || rowL starB takesB (part.take (x + 1)) name j)) := by
                rw [Hid, tk.out, row_run hst _ _ hkl]; simp
              have S : Hid _ := done.out _ R.out
              clear done skip HN HO
              generalize rowL starB takesB (part.take x) name (j + 1) = b at *
              generalize rowL starB takesB (part.take (x + 1)) name j = c at *
              cases b
              · cases c
                all_goals
                  go_wp2
                  go_roundw
                  case rel => exact S.out _ (.inl rfl)
                  case measure => simp [intOf]; omega
              · go_wp2
                go_roundw
                case rel => exact S.out _ (.inl rfl)
                case measure => simp [intOf]; omega
        · have hkl' : ¬ (k : Int) ≤ name.length := by omega
          have hke : k = name.length + 1 := by omega
          have F : Hid (BoolsAt wr gn (name.length + 1) (rowL starB takesB (part.take (x + 1)) name)) := hN.congr fun j hj => by rw [if_pos (by omega)]
          have HBz : Hid (Below w.heap.size w wr) := hBz
          clear hN hO hBz hke
          go_wp2
          go_roundw
          case rel => exact ⟨x + 1, gn, by omega, rfl, hwn.out, rfl, F.out, HBz.out⟩
          case measure => simp [intOf]; omega
    · have cL := hB.cell (k := name.length) (by omega)
      have R : Hid (rowL starB takesB (part.take x) name name.length = spelledL part name) := by rw [Hid, row_end, List.take_of_length_le (by omega)]; rfl
      rw [R.out] at cL
      have HBz : Hid (Below w.heap.size w wr) := hb
      clear hB hb
      go_wp2
      go_ret
      exact ⟨rfl, HBz.out⟩

end Go.Proofs.YtdcbgfhkfmohiaaGreatDoor

/- The document's Fits: does a path fit a pattern? -/
namespace Go.Proofs.YtdcbgfhkfmohiaaGreatDoor
open Go.RowKit

def runS (p : Str) : Bool := p == [42, 42]
def fitsL (pat path : Str) : Bool := laidL runS spelledL (splitL 47 pat) (splitL 47 path)

set_option maxHeartbeats 4000000 in
set_option maxRecDepth 100000 in
theorem fits_any (pat path : Str) (w : World) (hp : pat.length ≤ 900) (hn : path.length ≤ 900) :
    Calls Tryz.prog 168 #[SV pat, SV path] w fun e w' => e = .returned (.bool (fitsL pat path)) ∧ Below w.heap.size w w' := by
  have hc : (UInt8.toNat 47 : Int) = 47 := rfl
  have hne1 := splitL_ne 47 pat
  have hne2 := splitL_ne 47 path
  have hl1 := splitL_len 47 pat
  have hl2 := splitL_len 47 path
  have hpc1 := splitL_piece 47 pat
  have hpc2 := splitL_piece 47 path
  go_enter Tryz.func168, Tryz.ntmps168
  go_wp2_with fail
  refine (split_any pat 47 _ (by omega)).mono ?_
  rintro e w1 ⟨v1, rfl, hown1, hbel1⟩
  go_wp2_with fail
  refine (split_any path 47 _ (by omega)).mono ?_
  rintro e w2 ⟨v2, rfl, hown2, hbel2⟩
  rcases strs_cells hown1 with ⟨rfl, h0, h2⟩ | ⟨g1, cap1, rfl, hn1, hg1, hgb1, hcap1, hm1, hcell1⟩
  · exact absurd h2 hne1
  rcases strs_cells hown2 with ⟨rfl, h0, h2⟩ | ⟨g2, cap2, rfl, hn2, hg2, hgb2, hcap2, hm2, hcell2⟩
  · exact absurd h2 hne2
  have HC1 : Hid (∀ W, Below w2.heap.size w2 W → ∀ k (h : k < (splitL 47 pat).length), W.cell? ⟨g1, k, none⟩ = some (SV (splitL 47 pat)[k])) := fun W hb k h => (hb.cell (p := ⟨g1, k, none⟩) (by have := hbel2.size; simp only; omega)).trans ((hbel2.cell hg1).trans (hcell1 k h))
  have HC2 : Hid (∀ W, Below w2.heap.size w2 W → ∀ k (h : k < (splitL 47 path).length), W.cell? ⟨g2, k, none⟩ = some (SV (splitL 47 path)[k])) := fun W hb k h => (hb.cell (p := ⟨g2, k, none⟩) hg2).trans (hcell2 k h)
  have HB : Hid (Below w.heap.size w w2) := hbel1.trans (hbel2.mono hbel1.size)
  clear hcell1 hcell2 hown1 hown2 hbel1 hbel2 hgb1 hgb2 hn1 hn2
  have HL : Hid (fitsL pat path = laidL runS spelledL (splitL 47 pat) (splitL 47 path)) := rfl
  have hq1 : (splitL 47 pat).length ≤ 901 := by omega
  have hq2 : (splitL 47 path).length ≤ 901 := by omega
  have hpc1' : Hid (∀ x ∈ splitL 47 pat, x.length ≤ 900) := fun x hx => by have := hpc1 x hx; omega
  have hpc2' : Hid (∀ x ∈ splitL 47 path, x.length ≤ 900) := fun x hx => by have := hpc2 x hx; omega
  clear hpc1 hpc2 hl1 hl2
  generalize splitL 47 pat = ps at *
  generalize splitL 47 path = xs at *
  unfold maxLen at hm1 hm2
  have MB := make_bools xs.length (by omega)
  obtain ⟨w3, mk3, hB3, hb3⟩ := MB w2
  have lt3 := hB3.lt
  have fz3 := hB3.frozen
  have c3 := hB3.cell (k := 0) (by omega)
  have HB3 : Hid (BoolsAt w3 w2.heap.size (xs.length + 1) fun _ => false) := hB3
  clear hB3
  go_wp2
  have HB3' : Hid (BoolsAt (w3.setCell ⟨w2.heap.size, 0, none⟩ (.bool true)) w2.heap.size (xs.length + 1) (rowL runS spelledL (ps.take 0) xs)) :=
    (HB3.out.set 0 true).congr fun k hk => by rw [List.take_zero, row_start xs (by omega)]; by_cases h : k = 0 <;> simp [h]
  have hb3' : Hid (Below w2.heap.size w2 (w3.setCell ⟨w2.heap.size, 0, none⟩ (.bool true))) := hb3.setCell (p := ⟨w2.heap.size, 0, none⟩) (Nat.le_refl _) _
  clear HB3 hb3 c3 fz3 lt3 mk3
  generalize w3.setCell ⟨w2.heap.size, 0, none⟩ (.bool true) = w4 at *
  go_loopw [7, 8] (fun ok i wz => ∃ (x g : Nat), x ≤ ps.length ∧ i = .int .i64 x ∧ w2.heap.size ≤ g ∧ ok = .slice (some ⟨g, 0, none⟩) (xs.length + 1) (xs.length + 1) ∧ BoolsAt wz g (xs.length + 1) (rowL runS spelledL (ps.take x) xs) ∧ Below w2.heap.size w2 wz) (fun _ i _ => ps.length - (intOf i).toNat)
  case atStart => exact ⟨0, w2.heap.size, Nat.zero_le _, rfl, Nat.le_refl _, rfl, HB3'.out, hb3'.out⟩
  case round =>
    obtain ⟨x, g, hx, rfl, hg, rfl, hB, hb⟩ := hrel
    clear HB3' hb3'
    by_cases hlt : x < ps.length
    · obtain ⟨wy, mk, hBn, hbn⟩ := MB wr
      have ltn := hB.lt
      have HN0 : Hid (BoolsAt wy wr.heap.size (xs.length + 1) (fun j => if j < 0 then rowL runS spelledL (ps.take (x + 1)) xs j else false)) := hBn.congr fun k _ => by simp
      have HO0 : Hid (BoolsAt wy g (xs.length + 1) (rowL runS spelledL (ps.take x) xs)) := (hbn.block _ ltn).trans hB
      have HBy : Hid (Below w2.heap.size w2 wy) := hb.trans (hbn.mono hb.size)
      have hgn : Hid (g < wr.heap.size) := ltn
      have hwn : Hid (w2.heap.size ≤ wr.heap.size) := hb.size
      clear hBn hB hb hbn ltn
      generalize wr.heap.size = gn at *
      go_wp2
      go_loopw [10] (fun j wz => ∃ k : Nat, k ≤ xs.length + 1 ∧ j = .int .i64 k ∧ BoolsAt wz gn (xs.length + 1) (fun j => if j < k then rowL runS spelledL (ps.take (x + 1)) xs j else false) ∧ BoolsAt wz g (xs.length + 1) (rowL runS spelledL (ps.take x) xs) ∧ Below w2.heap.size w2 wz) (fun j _ => xs.length + 1 - (intOf j).toNat)
      case atStart => exact ⟨0, Nat.zero_le _, rfl, HN0.out, HO0.out, HBy.out⟩
      case round =>
        obtain ⟨k, hk, rfl, hN, hO, hBz⟩ := hrel
        clear HN0 HO0 HBy
        by_cases hkl : k ≤ xs.length
        · have cO := hO.cell (k := k) (by omega)
          have fN := hN.frozen k
          have ltN := hN.lt
          have cP := HC1.out wr hBz x hlt
          have tk : Hid (ps.take (x + 1) = ps.take x ++ [ps[x]]) := List.take_succ_eq_append_getElem hlt
          have HN : Hid (BoolsAt wr gn (xs.length + 1) (fun j => if j < k then rowL runS spelledL (ps.take (x + 1)) xs j else false)) := hN
          have HO : Hid (BoolsAt wr g (xs.length + 1) (rowL runS spelledL (ps.take x) xs)) := hO
          have HBz : Hid (Below w2.heap.size w2 wr) := hBz
          have cS : wr.cell? ⟨gn, k, none⟩ = some (.bool false) := (HN.out.cell (by omega)).trans (by rw [if_neg (by omega)])
          have done : Hid (∀ v : Bool, rowL runS spelledL (ps.take (x + 1)) xs k = v → ∀ W, Below wr.heap.size wr W → ∃ k' : Nat, k' ≤ xs.length + 1 ∧ Value.int .i64 ((k : Int) + 1) = .int .i64 k' ∧ BoolsAt (W.setCell ⟨gn, k, none⟩ (.bool v)) gn (xs.length + 1) (fun j => if j < k' then rowL runS spelledL (ps.take (x + 1)) xs j else false) ∧ BoolsAt (W.setCell ⟨gn, k, none⟩ (.bool v)) g (xs.length + 1) (rowL runS spelledL (ps.take x) xs) ∧ Below w2.heap.size w2 (W.setCell ⟨gn, k, none⟩ (.bool v))) := fun v hv W hW => by
            have h1 : BoolsAt W gn (xs.length + 1) (fun j => if j < k then rowL runS spelledL (ps.take (x + 1)) xs j else false) := (hW.block _ HN.out.lt).trans HN.out
            have h2 : BoolsAt W g (xs.length + 1) (rowL runS spelledL (ps.take x) xs) := (hW.block _ HO.out.lt).trans HO.out
            exact ⟨k + 1, by omega, rfl, bools_step h1 hv, BoolsAt.other h2 (by have := hgn.out; omega) _ _, (HBz.out.trans (hW.mono HBz.out.size)).setCell (p := ⟨gn, k, none⟩) hwn.out _⟩
          have skip : Hid (rowL runS spelledL (ps.take (x + 1)) xs k = false → ∃ k' : Nat, k' ≤ xs.length + 1 ∧ Value.int .i64 ((k : Int) + 1) = .int .i64 k' ∧ BoolsAt wr gn (xs.length + 1) (fun j => if j < k' then rowL runS spelledL (ps.take (x + 1)) xs j else false) ∧ BoolsAt wr g (xs.length + 1) (rowL runS spelledL (ps.take x) xs) ∧ Below w2.heap.size w2 wr) := fun hv =>
            ⟨k + 1, by omega, rfl, bools_skip HN.out hv, HO.out, HBz.out⟩
          have hkl' : (k : Int) ≤ xs.length := by omega
          clear hN hO hBz
          cases hst : runS ps[x]
          · have hpx : (ps[x] == [42, 42]) = false := hst
            by_cases hk0 : k = 0
            · subst hk0
              have R : Hid (rowL runS spelledL (ps.take (x + 1)) xs 0 = false) := by rw [Hid, tk.out]; exact row_one0 hst _ _
              have S : Hid _ := skip.out R.out
              clear done skip cO HN HO
              go_wp2
              go_roundw
              case rel => exact S.out
              case measure => simp [intOf]
            · obtain ⟨j, rfl⟩ : ∃ j, k = j + 1 := ⟨k - 1, by omega⟩
              have hjl : j < xs.length := by omega
              have cO' := HO.out.cell (k := j) (by omega)
              have cX := HC2.out wr HBz.out j hjl
              have R : Hid (rowL runS spelledL (ps.take (x + 1)) xs (j + 1) = (spelledL ps[x] xs[j] && rowL runS spelledL (ps.take x) xs j)) := by rw [Hid, tk.out]; exact row_one hst _ _ hjl
              cases hrj : rowL runS spelledL (ps.take x) xs j
              · have S : Hid _ := skip.out (by rw [R.out, hrj, Bool.and_false])
                rw [hrj] at cO'
                clear done skip cO HN HO R
                go_wp2
                go_roundw
                case rel => exact S.out
                case measure => simp [intOf]; omega
              · have S : Hid _ := done.out (spelledL ps[x] xs[j]) (by rw [R.out, hrj, Bool.and_true])
                have C := fun W => spelled_any ps[x] xs[j] W (by have := hpc1'.out _ (List.getElem_mem hlt); omega) (by have := hpc2'.out _ (List.getElem_mem hjl); omega)
                rw [hrj] at cO'
                have hji : (j : Int) < (xs.length : Int) := by omega
                have hwr : IntKind.i64.wrap (j : Int) = (j : Int) := IntWalk.i64_in _ (by omega)
                clear done skip cO HO R
                go_wp2
                go_cut [11] (fun a wc => a = .bool (spelledL ps[x] xs[j]) ∧ Below wr.heap.size wr wc)
                case first =>
                  go_region_with (go_at_call 185; refine (C _).mono ?_; rintro e w1 ⟨rfl, hb1⟩)
                  all_goals
                    go_wp2_with fail
                    go_meet
                    case rel => exact ⟨rfl, ((Below.refl _ _).drew).trans hb1⟩
                case rest =>
                  obtain ⟨rfl, hbc⟩ := hcut
                  have S2 : Hid _ := S.out _ hbc
                  have cS2 := (hbc.cell (p := ⟨gn, j + 1, none⟩) ltN).trans cS
                  have hN2 : BoolsAt _ gn (xs.length + 1) _ := (hbc.block _ ltN).trans HN.out
                  have fN2 := hN2.frozen (j + 1)
                  have ltN2 := hN2.lt
                  clear S hbc cP cX cO' C HN hN2 cS fN ltN
                  go_wp2
                  go_roundw
                  case rel => exact S2.out
                  case measure => simp [intOf]; omega
          · have hpx : (ps[x] == [42, 42]) = true := hst
            by_cases hk0 : k = 0
            · subst hk0
              have R : Hid (rowL runS spelledL (ps.take (x + 1)) xs 0 = rowL runS spelledL (ps.take x) xs 0) := by rw [Hid, tk.out, row_run hst _ _ (Nat.zero_le _)]; simp
              have S : Hid _ := done.out _ R.out wr (Below.refl _ _)
              clear done skip HN HO
              generalize rowL runS spelledL (ps.take x) xs 0 = b at *
              cases b
              all_goals
                go_wp2
                go_roundw
                case rel => exact S.out
                case measure => simp [intOf]
            · obtain ⟨j, rfl⟩ : ∃ j, k = j + 1 := ⟨k - 1, by omega⟩
              have hjl : j < xs.length := by omega
              have cN := HN.out.cell (k := j) (by omega)
              rw [if_pos (by omega)] at cN
              have R : Hid (rowL runS spelledL (ps.take (x + 1)) xs (j + 1) = (rowL runS spelledL (ps.take x) xs (j + 1) || rowL runS spelledL (ps.take (x + 1)) xs j)) := by
                rw [Hid, tk.out, row_run hst _ _ hkl]; simp
              have S : Hid _ := done.out _ R.out wr (Below.refl _ _)
              clear done skip HN HO
              generalize rowL runS spelledL (ps.take x) xs (j + 1) = b at *
              generalize rowL runS spelledL (ps.take (x + 1)) xs j = c at *
              cases b
              · cases c
                all_goals
                  go_wp2
                  go_roundw
                  case rel => exact S.out
                  case measure => simp [intOf]; omega
              · go_wp2
                go_roundw
                case rel => exact S.out
                case measure => simp [intOf]; omega
        · have hkl' : ¬ (k : Int) ≤ xs.length := by omega
          have hke : k = xs.length + 1 := by omega
          have F : Hid (BoolsAt wr gn (xs.length + 1) (rowL runS spelledL (ps.take (x + 1)) xs)) := hN.congr fun j hj => by rw [if_pos (by omega)]
          have HBz : Hid (Below w2.heap.size w2 wr) := hBz
          clear hN hO hBz hke
          go_wp2
          go_roundw
          case rel => exact ⟨x + 1, gn, by omega, rfl, hwn.out, rfl, F.out, HBz.out⟩
          case measure => simp [intOf]; omega
    · have cL := hB.cell (k := xs.length) (by omega)
      have R : Hid (rowL runS spelledL (ps.take x) xs xs.length = fitsL pat path) := by rw [Hid, row_end, List.take_of_length_le (by omega), HL.out]
      rw [R.out] at cL
      have HBz : Hid (Below w2.heap.size w2 wr) := hb
      clear hB hb
      go_wp2
      go_ret
      exact ⟨rfl, HB.out.trans (HBz.out.mono HB.out.size)⟩

end Go.Proofs.YtdcbgfhkfmohiaaGreatDoor

/- The document's IsPattern. -/
namespace Go.Proofs.YtdcbgfhkfmohiaaGreatDoor
open Go.RowKit

/-- Two stars beside each other. -/
def starsAt (s : Str) (k : Nat) : Bool := s[k]? == some 42 && s[k - 1]? == some 42
def hasStars (s : Str) : Bool := (List.range s.length).any fun k => decide (1 ≤ k) && starsAt s k
/-- Is it a part of a pattern? -/
def partOkL (s : Str) : Bool := s == [42, 42] || (isNameL s true && !hasStars s)
def isPatternL (p : Str) : Bool := decide ((splitL 47 p).length ≤ 5) && (splitL 47 p).all partOkL

end Go.Proofs.YtdcbgfhkfmohiaaGreatDoor

/- The document's Check: what is wrong with a question; its words. -/
namespace Go.Proofs.YtdcbgfhkfmohiaaGreatDoor
open Go.RowKit

/-- The slice v reads as these words. -/
def WordsAt (w : World) (v : Value) (xs : List Str) : Prop :=
  ∃ g cap, v = .slice (some ⟨g, 0, none⟩) xs.length cap ∧ xs.length ≤ cap ∧ cap ≤ maxLen ∧ g < w.heap.size ∧ ∀ k (h : k < xs.length), w.cell? ⟨g, k, none⟩ = some (SV xs[k])
theorem WordsAt.below {w W : World} {v : Value} {xs : List Str} (h : WordsAt w v xs) (hb : Below w.heap.size w W) : WordsAt W v xs := by
  obtain ⟨g, cap, h1, h2, h3, h4, h5⟩ := h
  exact ⟨g, cap, h1, h2, h3, by have := hb.size; omega, fun k hk => (hb.cell (p := ⟨g, k, none⟩) h4).trans (h5 k hk)⟩

def kExists : Str := [101, 120, 105, 115, 116, 115]
def kList : Str := [108, 105, 115, 116]
def kRead : Str := [114, 101, 97, 100]
def kGlob : Str := [103, 108, 111, 98]
def kFirst : Str := [102, 105, 114, 115, 116]

/-- Is the word at i, of a question of the kind k, as it must be? -/
def wordOk (k : Str) (i : Nat) (x : Str) : Bool := if k == kFirst && i == 1 then isNameL x false else isPlaceL x
def placesE (xs : List Str) : Nat := if (List.range xs.length).all (fun i => i == 0 || wordOk (xs.headD []) i (xs.getD i [])) then 0 else 3
/-- What is wrong with the words of a question. -/
def checkW (xs : List Str) : Nat :=
  if xs.any (· == []) then 10
  else if xs.headD [] == kGlob then (if xs.length = 2 then (if isPatternL (xs.getD 1 []) then 0 else 9) else 10)
  else if xs.headD [] == kFirst then (if xs.length < 3 then 10 else placesE xs)
  else if xs.headD [] == kExists || xs.headD [] == kList || xs.headD [] == kRead then (if xs.length = 2 then placesE xs else 10)
  else 10
def checkL (q : Str) : Nat := if 60 < q.length then 4 else checkW (splitL 32 q)

def CheckOut (w : World) (q : Str) (e : Ending) (w' : World) : Prop :=
  Below w.heap.size w w' ∧ ((checkL q = 0 ∧ ∃ v, e = .returned (.tuple #[v, .int .i64 0]) ∧ WordsAt w' v (splitL 32 q)) ∨ (checkL q ≠ 0 ∧ e = .returned (.tuple #[.slice none 0 0, .int .i64 (checkL q)])))

theorem CheckOut.bad {w w' : World} {q : Str} {n : Nat} (hb : Below w.heap.size w w') (h : checkL q = n) (hn : n ≠ 0) : CheckOut w q (.returned (.tuple #[.slice none 0 0, .int .i64 n])) w' := ⟨hb, .inr ⟨by omega, by rw [h]⟩⟩

end Go.Proofs.YtdcbgfhkfmohiaaGreatDoor

/- What the document answers to a question: the pure words. No program. -/
namespace Go.Proofs.YtdcbgfhkfmohiaaGreatDoor
open Go.RowKit

/-- How a path shows in the list of its directory: its first name, with a slash behind it where the path goes on. -/
def labelL (p : Str) : Str := if 1 < (splitL 47 p).length then (splitL 47 p).headD [] ++ [47] else (splitL 47 p).headD []
def sepI (i : Nat) : Str := if i = 0 then [] else [32]
def listStep (i : Nat) (st : Str × Str) (f : Fl) : Str × Str := if labelL f.1 == st.2 then st else (st.1 ++ (sepI i ++ labelL f.1), labelL f.1)
def listF : Nat → Str × Str → List Fl → Str × Str
  | _, st, [] => st
  | i, st, f :: l => listF (i + 1) (listStep i st f) l
def listedL (l : List Fl) : Str := (listF 0 ([58], []) l).1

theorem listF_app (i : Nat) (st : Str × Str) (l m : List Fl) : listF i st (l ++ m) = listF (i + l.length) (listF i st l) m := by
  induction l generalizing i st with
  | nil => simp [listF]
  | cons f l ih => rw [List.cons_append, listF, ih, listF, List.length_cons, Nat.add_assoc, Nat.add_comm 1]
theorem listF_take {l : List Fl} {k : Nat} (hk : k < l.length) : listF 0 ([58], []) (l.take (k + 1)) = listStep k (listF 0 ([58], []) (l.take k)) l[k] := by
  rw [List.take_succ_eq_append_getElem hk, listF_app, listF, listF, List.length_take, Nat.min_eq_left (by omega), Nat.zero_add]
theorem labelL_len (p : Str) : (labelL p).length ≤ p.length + 1 := by
  unfold labelL
  have h : ((splitL 47 p).headD []).length ≤ p.length := by
    cases h : splitL 47 p with
    | nil => exact absurd h (splitL_ne 47 p)
    | cons x r => exact splitL_piece 47 p x (by rw [h]; simp)
  split
  · rw [List.length_append, List.length_singleton]; omega
  · omega
theorem listF_len {l : List Fl} (hs : ∀ f ∈ l, f.1.length ≤ 1000) (k : Nat) : (listF 0 ([58], []) (l.take k)).1.length ≤ 1 + 1002 * k ∧ (listF 0 ([58], []) (l.take k)).2.length ≤ 1001 := by
  induction k with
  | zero => simp [listF]
  | succ k ih =>
    by_cases hk : k < l.length
    · rw [listF_take hk]
      have h1 := labelL_len l[k].1
      have h2 := hs l[k] (List.getElem_mem hk)
      unfold listStep
      split
      · exact ⟨by omega, ih.2⟩
      · simp only [List.length_append]
        refine ⟨?_, by omega⟩
        have : (sepI k).length ≤ 1 := by unfold sepI; split <;> simp
        omega
    · rw [List.take_of_length_le (by omega)] at *; exact ⟨by omega, ih.2⟩

def noT : Str := [110, 111]
def fileT : Str := [102, 105, 108, 101]
def dirT : Str := [100, 105, 114, 101, 99, 116, 111, 114, 121]
/-- Where first looks: the name in that directory. -/
def inDir (d x : Str) : Str := if d == [47] then x else d ++ 47 :: x
def globL (l : List Fl) (p : Str) : Str := l.flatMap fun f => if fitsL p f.1 then f.1 ++ [10] else []
def firstL (l : List Fl) (x : Str) : List Str → Str
  | [] => noT
  | d :: ds => if 0 ≤ getI l (inDir d x) then inDir d x else firstL l x ds
def kindL (l : List Fl) (p : Str) : Str := if 0 ≤ getI l p then fileT else if isDirL l p then dirT else noT
def readL (l : List Fl) (p : Str) : Str := if 0 ≤ getI l p then 61 :: dataAt l (getI l p) else noT
def listL (l : List Fl) (p : Str) : Str := if isDirL l p then listedL (inL l p) else noT
/-- The answer to a question's words. -/
def answerL (l : List Fl) (xs : List Str) : Str :=
  if xs.headD [] == kExists then kindL l (xs.getD 1 [])
  else if xs.headD [] == kList then listL l (xs.getD 1 [])
  else if xs.headD [] == kRead then readL l (xs.getD 1 [])
  else if xs.headD [] == kGlob then globL l (xs.getD 1 [])
  else if xs.headD [] == kFirst then firstL l (xs.getD 1 []) (xs.drop 2)
  else noT

def askR (r : RSt) (n : Int) (q : Str) : Str × Nat :=
  match findL r.all n with
  | none => ([], 2)
  | some l => if checkL q = 0 then (answerL l (splitL 32 q), 0) else ([], checkL q)

end Go.Proofs.YtdcbgfhkfmohiaaGreatDoor

/- The document's Answer. -/
namespace Go.Proofs.YtdcbgfhkfmohiaaGreatDoor
open Go.RowKit

theorem answerL_exists {l : List Fl} {xs : List Str} {p : Str} (h : xs.headD [] = kExists) (hp : xs.getD 1 [] = p) : answerL l xs = kindL l p := by
  unfold answerL; rw [h, hp, if_pos (by rfl)]
theorem answerL_list {l : List Fl} {xs : List Str} {p : Str} (h : xs.headD [] = kList) (hp : xs.getD 1 [] = p) : answerL l xs = listL l p := by
  unfold answerL; rw [h, hp, if_neg (by decide), if_pos (by rfl)]
theorem answerL_read {l : List Fl} {xs : List Str} {p : Str} (h : xs.headD [] = kRead) (hp : xs.getD 1 [] = p) : answerL l xs = readL l p := by
  unfold answerL; rw [h, hp, if_neg (by decide), if_neg (by decide), if_pos (by rfl)]
theorem answerL_glob {l : List Fl} {xs : List Str} {p : Str} (h : xs.headD [] = kGlob) (hp : xs.getD 1 [] = p) : answerL l xs = globL l p := by
  unfold answerL; rw [h, hp, if_neg (by decide), if_neg (by decide), if_neg (by decide), if_pos (by rfl)]
theorem answerL_first {l : List Fl} {xs : List Str} {p : Str} (h : xs.headD [] = kFirst) (hp : xs.getD 1 [] = p) : answerL l xs = firstL l p (xs.drop 2) := by
  unfold answerL; rw [h, hp, if_neg (by decide), if_neg (by decide), if_neg (by decide), if_neg (by decide), if_pos (by rfl)]
/-- What the walk of Answer stands before, behind its first three lines. -/
structure AnsAt (w : World) (v : Value) (g cap : Nat) (l : List Fl) (xs : List Str) : Prop where
  files : FilesAt w v l
  small : Tiny l
  cells : ∀ k (h : k < xs.length), w.cell? ⟨g, k, none⟩ = some (SV xs[k])
  lt : g < w.heap.size
  cap : xs.length ≤ cap ∧ cap ≤ maxLen
  two : 2 ≤ xs.length
  few : xs.length ≤ 1000
  short : ∀ x ∈ xs, x.length ≤ 60
theorem AnsAt.below {w W : World} {v : Value} {g cap : Nat} {l : List Fl} {xs : List Str} (h : AnsAt w v g cap l xs) (hb : Below w.heap.size w W) : AnsAt W v g cap l xs :=
  ⟨files_below h.files hb (Nat.le_refl _), h.small, fun k hk => (hb.cell (p := ⟨g, k, none⟩) h.lt).trans (h.cells k hk), Nat.lt_of_lt_of_le h.lt hb.size, h.cap, h.two, h.few, h.short⟩

end Go.Proofs.YtdcbgfhkfmohiaaGreatDoor

/- The document's Answer: first; Ask. -/
namespace Go.Proofs.YtdcbgfhkfmohiaaGreatDoor
open Go.RowKit

theorem askR_none {r : RSt} {n : Int} {q : Str} (h : findL r.all n = none) : askR r n q = ([], 2) := by unfold askR; rw [h]
theorem askR_bad {r : RSt} {n : Int} {q : Str} {l : List Fl} (h : findL r.all n = some l) (hc : checkL q ≠ 0) : askR r n q = ([], checkL q) := by unfold askR; rw [h]; simp only; rw [if_neg hc]
theorem askR_ok {r : RSt} {n : Int} {q : Str} {l : List Fl} (h : findL r.all n = some l) (hc : checkL q = 0) : askR r n q = (answerL l (splitL 32 q), 0) := by unfold askR; rw [h]; simp only; rw [if_pos hc]
theorem check_ok {q : Str} (h : checkL q = 0) : q.length ≤ 60 ∧ checkW (splitL 32 q) = 0 := by
  unfold checkL at h
  split at h
  · omega
  · exact ⟨by omega, h⟩
theorem words_ok {q : Str} (h : q.length ≤ 60) : (∀ x ∈ splitL 32 q, x.length ≤ 60) ∧ (splitL 32 q).length ≤ 1000 :=
  ⟨fun x hx => by have := splitL_piece 32 q x hx; omega, by have := splitL_len 32 q; omega⟩

end Go.Proofs.YtdcbgfhkfmohiaaGreatDoor

/- Contracts of the library's strings.Split at one byte. -/
namespace Go.Proofs.YtdcbgfhkfmohiaaGreatDoor
open Go.RowKit

theorem splitL_count (c : UInt8) (s : Str) : (splitL c s).length = Lib.countByte s c + 1 := by
  unfold Lib.countByte
  induction s with
  | nil => simp [splitL]
  | cons b t ih =>
    unfold splitL
    by_cases h : b = c
    · rw [if_pos h, List.length_cons, ih, h, List.count_cons_self]
    · rw [if_neg h, List.count_cons_of_ne h]
      have := splitL_ne c t
      split
      · rename_i e; rw [e] at ih; simpa using ih
      · rename_i e; exact absurd e this

set_option maxHeartbeats 1000000 in
set_option maxRecDepth 100000 in
theorem count_any (s : Str) (c : UInt8) (w : World) :
    Calls Tryz.prog 146 #[SV s, SV [c]] w fun e w' => e = .returned (.int .i64 (Lib.countByte s c : Nat)) ∧ w' = w := by
  have hG := get_list
  go_enter Tryz.func146, Tryz.ntmps146
  go_wp2
  rw [run_callFunc_extern Tryz.func174 (by kernel_rfl) (by kernel_rfl) (by kernel_rfl) (e := Extern.BytealgCount.count) (by kernel_rfl), Lib.run_countString]
  simp only [Result.andThen]
  rw [Oper.upon_value]
  go_wp2
  go_ret
  exact ⟨ret_int (by simp), rfl⟩

set_option maxHeartbeats 2000000 in
set_option maxRecDepth 100000 in
theorem genSplitAll_any (s : Str) (c : UInt8) (w : World) (hs : s.length ≤ 1000) :
    Calls Tryz.prog 115 #[SV s, SV [c], .int .i64 0, .int .i64 (-1)] w fun e w' => ∃ v, e = .returned v ∧ w'.ownsRow w.heap.size 9 1 v (splitL c s).length ((splitL c s).map SV) ∧ Below w.heap.size w w' := by
  obtain ⟨i0, hi, hz0, hz1, hz2⟩ := info_parts Tryz.infoStr
  have hX := extract_list
  obtain ⟨n, hn⟩ : ∃ n, n = Lib.countByte s c := ⟨_, rfl⟩
  have hlen := splitL_count c s
  have Hn : Hid (splitNL c n s = splitL c s) := splitNL_all (by omega)
  have hn2 : n ≤ s.length := by have := splitL_len c s; omega
  have hmin : (min (n : Int) (s.length : Int)) = (n : Int) := by omega
  have hn1 : n ≤ 1000 := by omega
  have CC := count_any s c w
  rw [← hn] at CC
  clear hn hlen
  go_enter Tryz.func115, Tryz.ntmps115
  go_wp2_with (first | (go_at_call 146; refine CC.mono ?_; rintro e w ⟨rfl, rfl⟩) | (at_make; go_loud (refine wpList_make_full _ rfl (.tmp 30) (.tmp 30) 48 rfl w.heap.size 9 i0 _ 1 Tryz.underlying48 hi hz0 hz1 _ _ _ _ (n + 1) rfl rfl ?_ ?_ ?_ ?_ ?_ ?_)))
  · first | omega | (split <;> omega)
  · first | omega | (split <;> omega)
  · rw [hz2]; omega
  · unfold maxLen; omega
  · exact Nat.le_refl _
  intro w1 hown1 hg1
  have hb1 : Below w.heap.size w w1 := (Below.refl _ _).grown hg1 (Nat.le_refl _) (fun k hk => by simp at hk)
  obtain ⟨zs0, hzs⟩ : ∃ zs0, w1.ownsRow w.heap.size 9 1 (.slice (some ⟨w.heap.size, 0, none⟩) (n + 1) (n + 1)) (n + 1) zs0 := ⟨_, hown1⟩
  clear hown1 hg1 CC
  go_wp2
  clear hmin
  go_loopw [0, 10, 11] (fun sv i _ wr => ∃ (xs : List Str) (rest : Str) (q : Nat) (zs : List Value), i = .int .i64 xs.length ∧ sv = SV rest ∧ CutAt c n s xs rest q ∧ wr.ownsRow w.heap.size 9 1 (.slice (some ⟨w.heap.size, 0, none⟩) (n + 1) (n + 1)) (n + 1) zs ∧ zs.take xs.length = xs.map SV ∧ Below w.heap.size w wr) (fun _ i _ _ => n - (intOf i).toNat)
  case atStart => exact ⟨[], s, n, zs0, rfl, rfl, ⟨by simp, rfl, Nat.le_refl _⟩, hzs, by simp, hb1⟩
  case round =>
    clear hzs hb1
    obtain ⟨xs, rest, q, zs, rfl, rfl, hC, hown, htk, hbel⟩ := hrel
    have hcnt := hC.cnt
    have hrl := hC.len
    have hzl : zs.length = n + 1 := by have := hown.1; omega
    have hcell := hown.cellAt xs.length (by omega)
    have hfz := hown.frozenAt xs.length
    obtain ⟨u0, hu0⟩ : ∃ u, zs[xs.length]? = some u := ⟨_, List.getElem?_eq_getElem (by omega)⟩
    rw [hu0] at hcell
    have hml : rest.length ≤ maxLen := by unfold maxLen; omega
    have hge := Lib.indexByte_ge rest c
    cases q with
    | zero =>
      have R : Hid _ := hC.ends (.inl rfl)
      have hxn : n ≤ xs.length := by omega
      have hst := set_take (t := rest) (by omega) htk
      have hos := hown.stored xs.length (SV rest)
      clear hC
      go_wp2
      go_ret
      rw [← Hn.out]
      exact cut_end (by omega) hst hbel R.out (fun m hm => row_take hos.1 hm)
    | succ q =>
      have hxn : xs.length < n := by omega
      by_cases hneg : Lib.indexByte rest c < 0
      · have R : Hid _ := hC.ends (.inr hneg)
        have hst := set_take (t := rest) (by omega) htk
        have hos := hown.stored xs.length (SV rest)
        clear hC
        go_wp2_with (go_at_call 147; refine (index_any rest c _ hml).mono ?_; rintro e w' ⟨rfl, rfl⟩)
        go_ret
        rw [← Hn.out]
        exact cut_end (by omega) hst hbel R.out (fun m hm => row_take hos.1 hm)
      · obtain ⟨m, hm⟩ := Int.eq_ofNat_of_zero_le (show 0 ≤ Lib.indexByte rest c by omega)
        have R := hC.step hm
        have hsp := (indexByte_split hm).1
        have hst := set_take (t := rest.take m) (by omega) htk
        have hos := hown.stored xs.length (SV (rest.take m))
        clear hC
        go_wp2_with (go_at_call 147; refine (index_any rest c _ hml).mono ?_; rintro e w' ⟨rfl, rfl⟩)
        go_roundw
        case rel => exact ⟨xs ++ [rest.take m], rest.drop (m + 1), q, _, by simp, by simp [List.take_of_length_le], R, hos.1, by simpa using hst, hbel.grown hos.2 hbel.size (fun k hk => by simp at hk; omega)⟩
        case measure => simp [intOf]; omega

set_option maxHeartbeats 1000000 in
theorem prgSplit_any (s : Str) (c : UInt8) (w : World) (hs : s.length ≤ 1000) :
    Calls Tryz.prog 79 #[SV s, SV [c]] w fun e w' => ∃ v, e = .returned v ∧ w'.ownsRow w.heap.size 9 1 v (splitL c s).length ((splitL c s).map SV) ∧ Below w.heap.size w w' := by
  go_enter Tryz.func79, Tryz.ntmps79
  go_wp2_with (go_at_call 115; refine (genSplitAll_any s c _ hs).mono ?_; rintro e w' ⟨v, rfl, hown, hbel⟩)
  go_ret
  exact ⟨_, rfl, hown, hbel⟩

end Go.Proofs.YtdcbgfhkfmohiaaGreatDoor
