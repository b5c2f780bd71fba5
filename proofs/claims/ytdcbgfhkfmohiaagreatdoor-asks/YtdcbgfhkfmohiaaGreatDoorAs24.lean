/- The document's Spelled: does a part spell a name? -/
import Derived.Test.YtdcbgfhkfmohiaaGreatDoorAs23
namespace Go.Proofs.YtdcbgfhkfmohiaaGreatDoor
open Go.RowKit

/-- A row of truth values. -/
def BoolsAt (w : World) (g N : Nat) (f : Nat → Bool) : Prop := w.heap[g]? = some (.cells ((List.range N).map fun k => Value.bool (f k)).toArray 4 (0, 0))

theorem BoolsAt.cell {w : World} {g N : Nat} {f : Nat → Bool} (h : BoolsAt w g N f) {k : Nat} (hk : k < N) : w.cell? ⟨g, k, none⟩ = some (.bool (f k)) := by
  unfold BoolsAt at h
  simp [World.cell?, h, hk]
theorem BoolsAt.lt {w : World} {g N : Nat} {f : Nat → Bool} (h : BoolsAt w g N f) : g < w.heap.size := (Array.getElem?_eq_some_iff.1 h).1
theorem BoolsAt.frozen {w : World} {g N : Nat} {f : Nat → Bool} (h : BoolsAt w g N f) (k : Nat) : w.frozen? ⟨g, k, none⟩ = false := Lib.frozen_of_heap h k
theorem BoolsAt.set {w : World} {g N : Nat} {f : Nat → Bool} (h : BoolsAt w g N f) (k : Nat) (b : Bool) : BoolsAt (w.setCell ⟨g, k, none⟩ (.bool b)) g N (fun j => if j = k then b else f j) := by
  unfold BoolsAt at h ⊢
  simp only [World.setCell, Array.getElem?_modify, if_true, h, Option.map_some]
  congr 2
  apply Array.ext'
  apply List.ext_getElem?
  intro j
  simp [List.getElem?_set]
  by_cases hj : j < N
  · by_cases e : k = j
    · subst e; simp [hj]
    · have e' : ¬ j = k := fun h => e h.symm
      simp [hj, e, e']
  · simp [hj]
    intro e; omega
theorem BoolsAt.other {w : World} {g N : Nat} {f : Nat → Bool} (h : BoolsAt w g N f) {g' : Nat} (hg : g' ≠ g) (k : Nat) (v : Value) : BoolsAt (w.setCell ⟨g', k, none⟩ v) g N f := by
  unfold BoolsAt at h ⊢
  rw [Below.heap_setCell _ _ _ _ (fun e => hg e.symm)]; exact h
theorem BoolsAt.congr {w : World} {g N : Nat} {f f' : Nat → Bool} (h : BoolsAt w g N f) (he : ∀ k, k < N → f k = f' k) : BoolsAt w g N f' := by
  unfold BoolsAt at h ⊢
  rw [h]
  congr 3
  exact List.map_congr_left fun k hk => by rw [he k (List.mem_range.1 hk)]

theorem bools_step {w : World} {g N k : Nat} {F : Nat → Bool} (h : BoolsAt w g N fun j => if j < k then F j else false) {v : Bool} (hv : F k = v) : BoolsAt (w.setCell ⟨g, k, none⟩ (.bool v)) g N fun j => if j < k + 1 then F j else false :=
  (h.set k v).congr fun j _ => by
    by_cases e : j = k
    · subst e; simp [hv]
    · by_cases h1 : j < k
      · simp [e, h1, show j < k + 1 by omega]
      · simp [e, h1, show ¬ j < k + 1 by omega]
theorem bools_skip {w : World} {g N k : Nat} {F : Nat → Bool} (h : BoolsAt w g N fun j => if j < k then F j else false) (hv : F k = false) : BoolsAt w g N fun j => if j < k + 1 then F j else false :=
  h.congr fun j _ => by
    by_cases e : j = k
    · subst e; simp [hv]
    · by_cases h1 : j < k
      · simp [h1, show j < k + 1 by omega]
      · simp [h1, show ¬ j < k + 1 by omega]

theorem Tryz.infoBool : (Tryz.prog.info? 4).map (fun i => (i.zero, i.size, i.bytes)) = some (some (.bool false), 1, 1) := by kernel_rfl
theorem make_bools (n : Nat) (hn : n ≤ 1000) (W : World) : ∃ W', (Instr.makeSlice 30 (.int .i64 ((n : Int) + 1)) (.int .i64 ((n : Int) + 1))).run Tryz.prog W = .ok (.slice (some ⟨W.heap.size, 0, none⟩) (n + 1) (n + 1)) W' ∧ BoolsAt W' W.heap.size (n + 1) (fun _ => false) ∧ Below W.heap.size W W' := by
  obtain ⟨i, hi, hz0, hz1, hz2⟩ := info_parts Tryz.infoBool
  have h := run_makeSlice (P := Tryz.prog) W 30 4 i (.bool false) (by kernel_rfl) hi hz0 .i64 .i64 ((n : Int) + 1) ((n : Int) + 1) (by omega) (Int.le_refl _) (by rw [hz1]; omega) (by rw [hz2]; omega) (by omega)
  refine ⟨_, h, ?_, (Below.refl _ W).alloc (Nat.le_refl _) _⟩
  unfold BoolsAt
  have e : ((n : Int) + 1).toNat = n + 1 := by omega
  have e2 : madeCells (Value.bool false).cells (n + 1) = ((List.range (n + 1)).map fun _ => Value.bool false).toArray := by
    apply Array.ext'
    have e1 : (Value.bool false).cells = #[.bool false] := rfl
    simp [madeCells, e1, Nat.mod_one]
  rw [heap_alloc_new, hz1, e, Nat.mul_one, e2]

def starB (p : UInt8) : Bool := p == 42
def takesB (p c : UInt8) : Bool := p == 63 || p == c
/-- Does a part spell a name? -/
def spelledL (part name : Str) : Bool := laidL starB takesB part name

set_option maxHeartbeats 2000000 in
set_option maxRecDepth 100000 in
theorem spelled_any (part name : Str) (w : World) (hp : part.length ≤ 1000) (hn : name.length ≤ 1000) :
    Calls Tryz.prog 185 #[SV part, SV name] w fun e w' => e = .returned (.bool (spelledL part name)) ∧ Below w.heap.size w w' := by
  have hG := get_list
  have MB := make_bools name.length hn
  obtain ⟨w1, mk1, hB1, hb1⟩ := MB w
  have lt1 := hB1.lt
  have fz1 := hB1.frozen
  have c1 := hB1.cell (k := 0) (by omega)
  have HB1 : Hid (BoolsAt w1 w.heap.size (name.length + 1) fun _ => false) := hB1
  clear hB1
  go_enter Tryz.func185, Tryz.ntmps185
  go_wp2
  have HB1' : Hid (BoolsAt (w1.setCell ⟨w.heap.size, 0, none⟩ (.bool true)) w.heap.size (name.length + 1) (rowL starB takesB (part.take 0) name)) :=
    (HB1.out.set 0 true).congr fun k hk => by rw [List.take_zero, row_start name (by omega)]; by_cases h : k = 0 <;> simp [h]
  have hb1' : Hid (Below w.heap.size w (w1.setCell ⟨w.heap.size, 0, none⟩ (.bool true))) := hb1.setCell (p := ⟨w.heap.size, 0, none⟩) (Nat.le_refl _) _
  clear HB1 hb1 c1 fz1 lt1 mk1
  generalize w1.setCell ⟨w.heap.size, 0, none⟩ (.bool true) = w2 at *
  go_loopw [5, 6] (fun ok i wz => ∃ (x g : Nat), x ≤ part.length ∧ i = .int .i64 x ∧ w.heap.size ≤ g ∧ ok = .slice (some ⟨g, 0, none⟩) (name.length + 1) (name.length + 1) ∧ BoolsAt wz g (name.length + 1) (rowL starB takesB (part.take x) name) ∧ Below w.heap.size w wz) (fun _ i _ => part.length - (intOf i).toNat)
  case atStart => exact ⟨0, w.heap.size, Nat.zero_le _, rfl, Nat.le_refl _, rfl, HB1'.out, hb1'.out⟩
  case round =>
    obtain ⟨x, g, hx, rfl, hg, rfl, hB, hb⟩ := hrel
    clear HB1' hb1'
    by_cases hlt : x < part.length
    · obtain ⟨wy, mk, hBn, hbn⟩ := MB wr
      have ltn := hB.lt
      have HN0 : Hid (BoolsAt wy wr.heap.size (name.length + 1) (fun j => if j < 0 then rowL starB takesB (part.take (x + 1)) name j else false)) := hBn.congr fun k _ => by simp
      have HO0 : Hid (BoolsAt wy g (name.length + 1) (rowL starB takesB (part.take x) name)) := (hbn.block _ ltn).trans hB
      have HBy : Hid (Below w.heap.size w wy) := hb.trans (hbn.mono hb.size)
      have hgn : Hid (g < wr.heap.size) := ltn
      have hwn : Hid (w.heap.size ≤ wr.heap.size) := hb.size
      clear hBn hB hb hbn ltn
      generalize wr.heap.size = gn at *
      go_wp2
      go_loopw [8] (fun j wz => ∃ k : Nat, k ≤ name.length + 1 ∧ j = .int .i64 k ∧ BoolsAt wz gn (name.length + 1) (fun j => if j < k then rowL starB takesB (part.take (x + 1)) name j else false) ∧ BoolsAt wz g (name.length + 1) (rowL starB takesB (part.take x) name) ∧ Below w.heap.size w wz) (fun j _ => name.length + 1 - (intOf j).toNat)
      case atStart => exact ⟨0, Nat.zero_le _, rfl, HN0.out, HO0.out, HBy.out⟩
      case round =>
        obtain ⟨k, hk, rfl, hN, hO, hBz⟩ := hrel
        clear HN0 HO0 HBy
        by_cases hkl : k ≤ name.length
        · have cO := hO.cell (k := k) (by omega)
          have fN := hN.frozen k
          have ltN := hN.lt
          have tk : Hid (part.take (x + 1) = part.take x ++ [part[x]]) := List.take_succ_eq_append_getElem hlt
          have HN : Hid (BoolsAt wr gn (name.length + 1) (fun j => if j < k then rowL starB takesB (part.take (x + 1)) name j else false)) := hN
          have HO : Hid (BoolsAt wr g (name.length + 1) (rowL starB takesB (part.take x) name)) := hO
          have HBz : Hid (Below w.heap.size w wr) := hBz
          have cS : wr.cell? ⟨gn, k, none⟩ = some (.bool false) := (HN.out.cell (by omega)).trans (by rw [if_neg (by omega)])
          have done : Hid (∀ v : Bool, rowL starB takesB (part.take (x + 1)) name k = v → ∀ W, (W = wr ∨ ∃ q, W = wr.drewN q) → ∃ k' : Nat, k' ≤ name.length + 1 ∧ Value.int .i64 ((k : Int) + 1) = .int .i64 k' ∧ BoolsAt (W.setCell ⟨gn, k, none⟩ (.bool v)) gn (name.length + 1) (fun j => if j < k' then rowL starB takesB (part.take (x + 1)) name j else false) ∧ BoolsAt (W.setCell ⟨gn, k, none⟩ (.bool v)) g (name.length + 1) (rowL starB takesB (part.take x) name) ∧ Below w.heap.size w (W.setCell ⟨gn, k, none⟩ (.bool v))) := fun v hv W hW => by
            have hh : W.heap = wr.heap := by rcases hW with rfl | ⟨q, rfl⟩ <;> rfl
            have hbW : Below w.heap.size w W := by rcases hW with rfl | ⟨q, rfl⟩; exact HBz.out; exact below_drewN HBz.out _
            have h1 := HN.out
            have h2 := HO.out
            unfold BoolsAt at h1 h2
            rw [← hh] at h1 h2
            exact ⟨k + 1, by omega, rfl, bools_step h1 hv, BoolsAt.other h2 (by have := hgn.out; omega) _ _, hbW.setCell (p := ⟨gn, k, none⟩) hwn.out _⟩
          have skip : Hid (rowL starB takesB (part.take (x + 1)) name k = false → ∀ q, ∃ k' : Nat, k' ≤ name.length + 1 ∧ Value.int .i64 ((k : Int) + 1) = .int .i64 k' ∧ BoolsAt (wr.drewN q) gn (name.length + 1) (fun j => if j < k' then rowL starB takesB (part.take (x + 1)) name j else false) ∧ BoolsAt (wr.drewN q) g (name.length + 1) (rowL starB takesB (part.take x) name) ∧ Below w.heap.size w (wr.drewN q)) := fun hv q =>
            ⟨k + 1, by omega, rfl, bools_skip (w := wr.drewN q) HN.out hv, HO.out, below_drewN HBz.out _⟩
          have hkl' : (k : Int) ≤ name.length := by omega
          have hpx : ((part[x].toNat : Int) == 42) = starB part[x] := by unfold starB; rw [Bool.eq_iff_iff]; simp [← UInt8.toNat_inj]; omega
          clear hN hO hBz
          cases hst : starB part[x]
          · rw [hst] at hpx
            by_cases hk0 : k = 0
            · subst hk0
              have R : Hid (rowL starB takesB (part.take (x + 1)) name 0 = false) := by rw [Hid, tk.out]; exact row_one0 hst _ _
              have S : Hid _ := skip.out R.out
              clear done skip cO HN HO
              go_wp2
              go_quiet (fail)
              go_wp2
              go_roundw
              case rel => exact S.out _
              case measure => simp [intOf]
            · obtain ⟨j, rfl⟩ : ∃ j, k = j + 1 := ⟨k - 1, by omega⟩
              have hjl : j < name.length := by omega
              have cO' := HO.out.cell (k := j) (by omega)
              have R : Hid (rowL starB takesB (part.take (x + 1)) name (j + 1) = (takesB part[x] name[j] && rowL starB takesB (part.take x) name j)) := by rw [Hid, tk.out]; exact row_one hst _ _ hjl
              have hst2 : (part[x].toNat : Int) ≠ 42 := by simpa using hpx
              cases htk : takesB part[x] name[j]
              · have S : Hid _ := skip.out (by rw [R.out, htk, Bool.false_and])
                have t1 : ((part[x].toNat : Int) == 63) = false := by
                  unfold takesB at htk; simp [← UInt8.toNat_inj] at htk ⊢; omega
                have t2 : ((part[x].toNat : Int) == (name[j].toNat : Int)) = false := by
                  unfold takesB at htk; simp [← UInt8.toNat_inj] at htk ⊢; omega
                clear done skip cO HN HO cO' htk R
                go_wp2
                go_quiet (fail)
                go_wp2
                go_roundw
                case rel => exact S.out _
                case measure => simp [intOf]; omega
              · have S : Hid _ := done.out _ (by rw [R.out, htk, Bool.true_and])
                generalize rowL starB takesB (part.take x) name j = b at *
                by_cases t1 : ((part[x].toNat : Int) == 63) = true
                · clear done skip cO HN HO htk R
                  go_wp2
                  go_quiet (fail)
                  go_wp2
                  go_roundw
                  case rel => exact S.out _ (.inr ⟨_, rfl⟩)
                  case measure => simp [intOf]; omega
                · have t1' : ((part[x].toNat : Int) == 63) = false := by simpa using t1
                  have t2 : ((part[x].toNat : Int) == (name[j].toNat : Int)) = true := by
                    unfold takesB at htk; simp [← UInt8.toNat_inj] at htk t1 ⊢; omega
                  clear done skip cO HN HO htk R t1
                  go_wp2
                  go_quiet (fail)
                  go_wp2
                  go_roundw
                  case rel => exact S.out _ (.inr ⟨_, rfl⟩)
                  case measure => simp [intOf]; omega
          · rw [hst] at hpx
            by_cases hk0 : k = 0
            · subst hk0
              have R : Hid (rowL starB takesB (part.take (x + 1)) name 0 = rowL starB takesB (part.take x) name 0) := by rw [Hid, tk.out, row_run hst _ _ (Nat.zero_le _)]; simp
              have S : Hid _ := done.out _ R.out
              clear done skip HN HO
              generalize rowL starB takesB (part.take x) name 0 = b at *
              cases b
              all_goals
                go_wp2
                go_roundw
                case rel => exact S.out _ (.inl rfl)
                case measure => simp [intOf]
            · obtain ⟨j, rfl⟩ : ∃ j, k = j + 1 := ⟨k - 1, by omega⟩
              have hjl : j < name.length := by omega
              have cN := HN.out.cell (k := j) (by omega)
              rw [if_pos (by omega)] at cN
              have R : Hid (rowL starB takesB (part.take (x + 1)) name (j + 1) = (rowL starB takesB (part.take x) name (j + 1) || rowL starB takesB (part.take (x + 1)) name j)) := by
                rw [Hid, tk.out, row_run hst _ _ hkl]; simp
              have S : Hid _ := done.out _ R.out
              clear done skip HN HO
              generalize rowL starB takesB (part.take x) name (j + 1) = b at *
              generalize rowL starB takesB (part.take (x + 1)) name j = c at *
              cases b
              · cases c
                all_goals
                  go_wp2
                  go_roundw
                  case rel => exact S.out _ (.inl rfl)
                  case measure => simp [intOf]; omega
              · go_wp2
                go_roundw
                case rel => exact S.out _ (.inl rfl)
                case measure => simp [intOf]; omega
        · have hkl' : ¬ (k : Int) ≤ name.length := by omega
          have hke : k = name.length + 1 := by omega
          have F : Hid (BoolsAt wr gn (name.length + 1) (rowL starB takesB (part.take (x + 1)) name)) := hN.congr fun j hj => by rw [if_pos (by omega)]
          have HBz : Hid (Below w.heap.size w wr) := hBz
          clear hN hO hBz hke
          go_wp2
          go_roundw
          case rel => exact ⟨x + 1, gn, by omega, rfl, hwn.out, rfl, F.out, HBz.out⟩
          case measure => simp [intOf]; omega
    · have cL := hB.cell (k := name.length) (by omega)
      have R : Hid (rowL starB takesB (part.take x) name name.length = spelledL part name) := by rw [Hid, row_end, List.take_of_length_le (by omega)]; rfl
      rw [R.out] at cL
      have HBz : Hid (Below w.heap.size w wr) := hb
      clear hB hb
      go_wp2
      go_ret
      exact ⟨rfl, HBz.out⟩

end Go.Proofs.YtdcbgfhkfmohiaaGreatDoor

/- The document's Fits: does a path fit a pattern? -/
namespace Go.Proofs.YtdcbgfhkfmohiaaGreatDoor
open Go.RowKit

def runS (p : Str) : Bool := p == [42, 42]
def fitsL (pat path : Str) : Bool := laidL runS spelledL (splitL 47 pat) (splitL 47 path)

set_option maxHeartbeats 4000000 in
set_option maxRecDepth 100000 in
theorem fits_any (pat path : Str) (w : World) (hp : pat.length ≤ 900) (hn : path.length ≤ 900) :
    Calls Tryz.prog 168 #[SV pat, SV path] w fun e w' => e = .returned (.bool (fitsL pat path)) ∧ Below w.heap.size w w' := by
  have hc : (UInt8.toNat 47 : Int) = 47 := rfl
  have hne1 := splitL_ne 47 pat
  have hne2 := splitL_ne 47 path
  have hl1 := splitL_len 47 pat
  have hl2 := splitL_len 47 path
  have hpc1 := splitL_piece 47 pat
  have hpc2 := splitL_piece 47 path
  go_enter Tryz.func168, Tryz.ntmps168
  go_wp2_with fail
  refine (split_any pat 47 _ (by omega)).mono ?_
  rintro e w1 ⟨v1, rfl, hown1, hbel1⟩
  go_wp2_with fail
  refine (split_any path 47 _ (by omega)).mono ?_
  rintro e w2 ⟨v2, rfl, hown2, hbel2⟩
  rcases strs_cells hown1 with ⟨rfl, h0, h2⟩ | ⟨g1, cap1, rfl, hn1, hg1, hgb1, hcap1, hm1, hcell1⟩
  · exact absurd h2 hne1
  rcases strs_cells hown2 with ⟨rfl, h0, h2⟩ | ⟨g2, cap2, rfl, hn2, hg2, hgb2, hcap2, hm2, hcell2⟩
  · exact absurd h2 hne2
  have HC1 : Hid (∀ W, Below w2.heap.size w2 W → ∀ k (h : k < (splitL 47 pat).length), W.cell? ⟨g1, k, none⟩ = some (SV (splitL 47 pat)[k])) := fun W hb k h => (hb.cell (p := ⟨g1, k, none⟩) (by have := hbel2.size; simp only; omega)).trans ((hbel2.cell hg1).trans (hcell1 k h))
  have HC2 : Hid (∀ W, Below w2.heap.size w2 W → ∀ k (h : k < (splitL 47 path).length), W.cell? ⟨g2, k, none⟩ = some (SV (splitL 47 path)[k])) := fun W hb k h => (hb.cell (p := ⟨g2, k, none⟩) hg2).trans (hcell2 k h)
  have HB : Hid (Below w.heap.size w w2) := hbel1.trans (hbel2.mono hbel1.size)
  clear hcell1 hcell2 hown1 hown2 hbel1 hbel2 hgb1 hgb2 hn1 hn2
  have HL : Hid (fitsL pat path = laidL runS spelledL (splitL 47 pat) (splitL 47 path)) := rfl
  have hq1 : (splitL 47 pat).length ≤ 901 := by omega
  have hq2 : (splitL 47 path).length ≤ 901 := by omega
  have hpc1' : Hid (∀ x ∈ splitL 47 pat, x.length ≤ 900) := fun x hx => by have := hpc1 x hx; omega
  have hpc2' : Hid (∀ x ∈ splitL 47 path, x.length ≤ 900) := fun x hx => by have := hpc2 x hx; omega
  clear hpc1 hpc2 hl1 hl2
  generalize splitL 47 pat = ps at *
  generalize splitL 47 path = xs at *
  unfold maxLen at hm1 hm2
  have MB := make_bools xs.length (by omega)
  obtain ⟨w3, mk3, hB3, hb3⟩ := MB w2
  have lt3 := hB3.lt
  have fz3 := hB3.frozen
  have c3 := hB3.cell (k := 0) (by omega)
  have HB3 : Hid (BoolsAt w3 w2.heap.size (xs.length + 1) fun _ => false) := hB3
  clear hB3
  go_wp2
  have HB3' : Hid (BoolsAt (w3.setCell ⟨w2.heap.size, 0, none⟩ (.bool true)) w2.heap.size (xs.length + 1) (rowL runS spelledL (ps.take 0) xs)) :=
    (HB3.out.set 0 true).congr fun k hk => by rw [List.take_zero, row_start xs (by omega)]; by_cases h : k = 0 <;> simp [h]
  have hb3' : Hid (Below w2.heap.size w2 (w3.setCell ⟨w2.heap.size, 0, none⟩ (.bool true))) := hb3.setCell (p := ⟨w2.heap.size, 0, none⟩) (Nat.le_refl _) _
  clear HB3 hb3 c3 fz3 lt3 mk3
  generalize w3.setCell ⟨w2.heap.size, 0, none⟩ (.bool true) = w4 at *
  go_loopw [7, 8] (fun ok i wz => ∃ (x g : Nat), x ≤ ps.length ∧ i = .int .i64 x ∧ w2.heap.size ≤ g ∧ ok = .slice (some ⟨g, 0, none⟩) (xs.length + 1) (xs.length + 1) ∧ BoolsAt wz g (xs.length + 1) (rowL runS spelledL (ps.take x) xs) ∧ Below w2.heap.size w2 wz) (fun _ i _ => ps.length - (intOf i).toNat)
  case atStart => exact ⟨0, w2.heap.size, Nat.zero_le _, rfl, Nat.le_refl _, rfl, HB3'.out, hb3'.out⟩
  case round =>
    obtain ⟨x, g, hx, rfl, hg, rfl, hB, hb⟩ := hrel
    clear HB3' hb3'
    by_cases hlt : x < ps.length
    · obtain ⟨wy, mk, hBn, hbn⟩ := MB wr
      have ltn := hB.lt
      have HN0 : Hid (BoolsAt wy wr.heap.size (xs.length + 1) (fun j => if j < 0 then rowL runS spelledL (ps.take (x + 1)) xs j else false)) := hBn.congr fun k _ => by simp
      have HO0 : Hid (BoolsAt wy g (xs.length + 1) (rowL runS spelledL (ps.take x) xs)) := (hbn.block _ ltn).trans hB
      have HBy : Hid (Below w2.heap.size w2 wy) := hb.trans (hbn.mono hb.size)
      have hgn : Hid (g < wr.heap.size) := ltn
      have hwn : Hid (w2.heap.size ≤ wr.heap.size) := hb.size
      clear hBn hB hb hbn ltn
      generalize wr.heap.size = gn at *
      go_wp2
      go_loopw [10] (fun j wz => ∃ k : Nat, k ≤ xs.length + 1 ∧ j = .int .i64 k ∧ BoolsAt wz gn (xs.length + 1) (fun j => if j < k then rowL runS spelledL (ps.take (x + 1)) xs j else false) ∧ BoolsAt wz g (xs.length + 1) (rowL runS spelledL (ps.take x) xs) ∧ Below w2.heap.size w2 wz) (fun j _ => xs.length + 1 - (intOf j).toNat)
      case atStart => exact ⟨0, Nat.zero_le _, rfl, HN0.out, HO0.out, HBy.out⟩
      case round =>
        obtain ⟨k, hk, rfl, hN, hO, hBz⟩ := hrel
        clear HN0 HO0 HBy
        by_cases hkl : k ≤ xs.length
        · have cO := hO.cell (k := k) (by omega)
          have fN := hN.frozen k
          have ltN := hN.lt
          have cP := HC1.out wr hBz x hlt
          have tk : Hid (ps.take (x + 1) = ps.take x ++ [ps[x]]) := List.take_succ_eq_append_getElem hlt
          have HN : Hid (BoolsAt wr gn (xs.length + 1) (fun j => if j < k then rowL runS spelledL (ps.take (x + 1)) xs j else false)) := hN
          have HO : Hid (BoolsAt wr g (xs.length + 1) (rowL runS spelledL (ps.take x) xs)) := hO
          have HBz : Hid (Below w2.heap.size w2 wr) := hBz
          have cS : wr.cell? ⟨gn, k, none⟩ = some (.bool false) := (HN.out.cell (by omega)).trans (by rw [if_neg (by omega)])
          have done : Hid (∀ v : Bool, rowL runS spelledL (ps.take (x + 1)) xs k = v → ∀ W, Below wr.heap.size wr W → ∃ k' : Nat, k' ≤ xs.length + 1 ∧ Value.int .i64 ((k : Int) + 1) = .int .i64 k' ∧ BoolsAt (W.setCell ⟨gn, k, none⟩ (.bool v)) gn (xs.length + 1) (fun j => if j < k' then rowL runS spelledL (ps.take (x + 1)) xs j else false) ∧ BoolsAt (W.setCell ⟨gn, k, none⟩ (.bool v)) g (xs.length + 1) (rowL runS spelledL (ps.take x) xs) ∧ Below w2.heap.size w2 (W.setCell ⟨gn, k, none⟩ (.bool v))) := fun v hv W hW => by
            have h1 : BoolsAt W gn (xs.length + 1) (fun j => if j < k then rowL runS spelledL (ps.take (x + 1)) xs j else false) := (hW.block _ HN.out.lt).trans HN.out
            have h2 : BoolsAt W g (xs.length + 1) (rowL runS spelledL (ps.take x) xs) := (hW.block _ HO.out.lt).trans HO.out
            exact ⟨k + 1, by omega, rfl, bools_step h1 hv, BoolsAt.other h2 (by have := hgn.out; omega) _ _, (HBz.out.trans (hW.mono HBz.out.size)).setCell (p := ⟨gn, k, none⟩) hwn.out _⟩
          have skip : Hid (rowL runS spelledL (ps.take (x + 1)) xs k = false → ∃ k' : Nat, k' ≤ xs.length + 1 ∧ Value.int .i64 ((k : Int) + 1) = .int .i64 k' ∧ BoolsAt wr gn (xs.length + 1) (fun j => if j < k' then rowL runS spelledL (ps.take (x + 1)) xs j else false) ∧ BoolsAt wr g (xs.length + 1) (rowL runS spelledL (ps.take x) xs) ∧ Below w2.heap.size w2 wr) := fun hv =>
            ⟨k + 1, by omega, rfl, bools_skip HN.out hv, HO.out, HBz.out⟩
          have hkl' : (k : Int) ≤ xs.length := by omega
          clear hN hO hBz
          cases hst : runS ps[x]
          · have hpx : (ps[x] == [42, 42]) = false := hst
            by_cases hk0 : k = 0
            · subst hk0
              have R : Hid (rowL runS spelledL (ps.take (x + 1)) xs 0 = false) := by rw [Hid, tk.out]; exact row_one0 hst _ _
              have S : Hid _ := skip.out R.out
              clear done skip cO HN HO
              go_wp2
              go_roundw
              case rel => exact S.out
              case measure => simp [intOf]
            · obtain ⟨j, rfl⟩ : ∃ j, k = j + 1 := ⟨k - 1, by omega⟩
              have hjl : j < xs.length := by omega
              have cO' := HO.out.cell (k := j) (by omega)
              have cX := HC2.out wr HBz.out j hjl
              have R : Hid (rowL runS spelledL (ps.take (x + 1)) xs (j + 1) = (spelledL ps[x] xs[j] && rowL runS spelledL (ps.take x) xs j)) := by rw [Hid, tk.out]; exact row_one hst _ _ hjl
              cases hrj : rowL runS spelledL (ps.take x) xs j
              · have S : Hid _ := skip.out (by rw [R.out, hrj, Bool.and_false])
                rw [hrj] at cO'
                clear done skip cO HN HO R
                go_wp2
                go_roundw
                case rel => exact S.out
                case measure => simp [intOf]; omega
              · have S : Hid _ := done.out (spelledL ps[x] xs[j]) (by rw [R.out, hrj, Bool.and_true])
                have C := fun W => spelled_any ps[x] xs[j] W (by have := hpc1'.out _ (List.getElem_mem hlt); omega) (by have := hpc2'.out _ (List.getElem_mem hjl); omega)
                rw [hrj] at cO'
                have hji : (j : Int) < (xs.length : Int) := by omega
                have hwr : IntKind.i64.wrap (j : Int) = (j : Int) := IntWalk.i64_in _ (by omega)
                clear done skip cO HO R
                go_wp2
                go_cut [11] (fun a wc => a = .bool (spelledL ps[x] xs[j]) ∧ Below wr.heap.size wr wc)
                case first =>
                  go_region_with (go_at_call 185; refine (C _).mono ?_; rintro e w1 ⟨rfl, hb1⟩)
                  all_goals
                    go_wp2_with fail
                    go_meet
                    case rel => exact ⟨rfl, ((Below.refl _ _).drew).trans hb1⟩
                case rest =>
                  obtain ⟨rfl, hbc⟩ := hcut
                  have S2 : Hid _ := S.out _ hbc
                  have cS2 := (hbc.cell (p := ⟨gn, j + 1, none⟩) ltN).trans cS
                  have hN2 : BoolsAt _ gn (xs.length + 1) _ := (hbc.block _ ltN).trans HN.out
                  have fN2 := hN2.frozen (j + 1)
                  have ltN2 := hN2.lt
                  clear S hbc cP cX cO' C HN hN2 cS fN ltN
                  go_wp2
                  go_roundw
                  case rel => exact S2.out
                  case measure => simp [intOf]; omega
          · have hpx : (ps[x] == [42, 42]) = true := hst
            by_cases hk0 : k = 0
            · subst hk0
              have R : Hid (rowL runS spelledL (ps.take (x + 1)) xs 0 = rowL runS spelledL (ps.take x) xs 0) := by rw [Hid, tk.out, row_run hst _ _ (Nat.zero_le _)]; simp
              have S : Hid _ := done.out _ R.out wr (Below.refl _ _)
              clear done skip HN HO
              generalize rowL runS spelledL (ps.take x) xs 0 = b at *
              cases b
              all_goals
                go_wp2
                go_roundw
                case rel => exact S.out
                case measure => simp [intOf]
            · obtain ⟨j, rfl⟩ : ∃ j, k = j + 1 := ⟨k - 1, by omega⟩
              have hjl : j < xs.length := by omega
              have cN := HN.out.cell (k := j) (by omega)
              rw [if_pos (by omega)] at cN
              have R : Hid (rowL runS spelledL (ps.take (x + 1)) xs (j + 1) = (rowL runS spelledL (ps.take x) xs (j + 1) || rowL runS spelledL (ps.take (x + 1)) xs j)) := by
                rw [Hid, tk.out, row_run hst _ _ hkl]; simp
              have S : Hid _ := done.out _ R.out wr (Below.refl _ _)
              clear done skip HN HO
              generalize rowL runS spelledL (ps.take x) xs (j + 1) = b at *
              generalize rowL runS spelledL (ps.take (x + 1)) xs j = c at *
              cases b
              · cases c
                all_goals
                  go_wp2
                  go_roundw
                  case rel => exact S.out
                  case measure => simp [intOf]; omega
              · go_wp2
                go_roundw
                case rel => exact S.out
                case measure => simp [intOf]; omega
        · have hkl' : ¬ (k : Int) ≤ xs.length := by omega
          have hke : k = xs.length + 1 := by omega
          have F : Hid (BoolsAt wr gn (xs.length + 1) (rowL runS spelledL (ps.take (x + 1)) xs)) := hN.congr fun j hj => by rw [if_pos (by omega)]
          have HBz : Hid (Below w2.heap.size w2 wr) := hBz
          clear hN hO hBz hke
          go_wp2
          go_roundw
          case rel => exact ⟨x + 1, gn, by omega, rfl, hwn.out, rfl, F.out, HBz.out⟩
          case measure => simp [intOf]; omega
    · have cL := hB.cell (k := xs.length) (by omega)
      have R : Hid (rowL runS spelledL (ps.take x) xs xs.length = fitsL pat path) := by rw [Hid, row_end, List.take_of_length_le (by omega), HL.out]
      rw [R.out] at cL
      have HBz : Hid (Below w2.heap.size w2 wr) := hb
      clear hB hb
      go_wp2
      go_ret
      exact ⟨rfl, HB.out.trans (HBz.out.mono HB.out.size)⟩

end Go.Proofs.YtdcbgfhkfmohiaaGreatDoor

/- The document's IsPattern. -/
namespace Go.Proofs.YtdcbgfhkfmohiaaGreatDoor
open Go.RowKit

/-- Two stars beside each other. -/
def starsAt (s : Str) (k : Nat) : Bool := s[k]? == some 42 && s[k - 1]? == some 42
def hasStars (s : Str) : Bool := (List.range s.length).any fun k => decide (1 ≤ k) && starsAt s k
/-- Is it a part of a pattern? -/
def partOkL (s : Str) : Bool := s == [42, 42] || (isNameL s true && !hasStars s)
def isPatternL (p : Str) : Bool := decide ((splitL 47 p).length ≤ 5) && (splitL 47 p).all partOkL

theorem hasStars_yes {s : Str} {k : Nat} (h1 : 1 ≤ k) (hk : k < s.length) (h : starsAt s k = true) : hasStars s = true := by
  unfold hasStars; rw [List.any_eq_true]; exact ⟨k, by simp [hk], by simp [h1, h]⟩
theorem hasStars_no {s : Str} (h : ∀ k, 1 ≤ k → k < s.length → starsAt s k = false) : hasStars s = false := by
  unfold hasStars; rw [List.any_eq_false]; intro k hk
  by_cases h1 : 1 ≤ k
  · simp [h1, h k h1 (by simpa using hk)]
  · simp [h1]
theorem pattern_bad {p : Str} {k : Nat} (hk : k < (splitL 47 p).length) (h : partOkL (splitL 47 p)[k] = false) : isPatternL p = false := by
  unfold isPatternL
  rw [show (splitL 47 p).all partOkL = false from List.all_eq_false.2 ⟨_, List.getElem_mem hk, by simp [h]⟩, Bool.and_false]
theorem pattern_end {p : Str} (h : ∀ j (hj : j < (splitL 47 p).length), partOkL (splitL 47 p)[j] = true) : isPatternL p = decide ((splitL 47 p).length ≤ 5) := by
  unfold isPatternL
  rw [show (splitL 47 p).all partOkL = true from List.all_eq_true.2 fun x hx => by obtain ⟨j, hj, rfl⟩ := List.getElem_of_mem hx; exact h j hj, Bool.and_true]

set_option maxHeartbeats 2000000 in
set_option maxRecDepth 50000 in
theorem isPattern_any (p : Str) (w : World) (hp : p.length ≤ 900) :
    Calls Tryz.prog 166 #[SV p] w fun e w' => e = .returned (.bool (isPatternL p)) ∧ Below w.heap.size w w' := by
  have hc : (UInt8.toNat 47 : Int) = 47 := rfl
  have hG := get_list
  have hne1 := splitL_ne 47 p
  have hl1 := splitL_len 47 p
  have hpc1 := splitL_piece 47 p
  go_enter Tryz.func166, Tryz.ntmps166
  go_wp2_with fail
  refine (split_any p 47 _ (by omega)).mono ?_
  rintro e w1 ⟨v1, rfl, hown1, hbel1⟩
  rcases strs_cells hown1 with ⟨rfl, h0, h2⟩ | ⟨g1, cap1, rfl, hn1, hg1, hgb1, hcap1, hm1, hcell1⟩
  · exact absurd h2 hne1
  have HB : Hid (Below w.heap.size w w1) := hbel1
  have hq1 : (splitL 47 p).length ≤ 901 := by omega
  have hpc : Hid (∀ x ∈ splitL 47 p, x.length ≤ 900) := fun x hx => by have := hpc1 x hx; omega
  have BAD : Hid (∀ k (hk : k < (splitL 47 p).length), partOkL (splitL 47 p)[k] = false → isPatternL p = false) := fun k hk h => pattern_bad hk h
  have END : Hid ((∀ j (hj : j < (splitL 47 p).length), partOkL (splitL 47 p)[j] = true) → isPatternL p = decide ((splitL 47 p).length ≤ 5)) := fun h => pattern_end h
  clear hown1 hbel1 hgb1 hn1 hpc1 hl1
  generalize splitL 47 p = xs at *
  unfold maxLen at hm1
  go_wp2
  go_loopw [4] (fun i wr => ∃ k n : Nat, k ≤ xs.length ∧ i = .int .i64 k ∧ wr = w1.drewN n ∧ ∀ j (hj : j < xs.length), j < k → partOkL xs[j] = true) (fun i _ => xs.length - (intOf i).toNat)
  case atStart => exact ⟨0, 0, Nat.zero_le _, rfl, rfl, fun j _ h => by omega⟩
  case round =>
    obtain ⟨k, n, hk, rfl, rfl, hall⟩ := hrel
    by_cases hlt : k < xs.length
    · have ck := hcell1 k hlt
      have hl := hpc.out _ (List.getElem_mem hlt)
      have CN := fun W => isName_any xs[k] true W (by unfold maxLen; omega)
      have NEXT : Hid (partOkL xs[k] = true → ∀ j (hj : j < xs.length), j < k + 1 → partOkL xs[j] = true) := fun h => str_step (q := partOkL) hlt hall h
      have BK : Hid _ := BAD.out k hlt
      clear hall hcell1 BAD
      cases hss : (xs[k] == [42, 42])
      · cases hnm : isNameL xs[k] true
        · have R : Hid (isPatternL p = false) := BK.out (by unfold partOkL; rw [hss, hnm]; rfl)
          rw [hnm] at CN
          clear NEXT BK
          go_wp2_with (go_at_call 163; refine (CN _).mono ?_; rintro e w' ⟨rfl, rfl⟩)
          go_ret
          exact ⟨by rw [R.out]; rfl, below_drewN HB.out _⟩
        · rw [hnm] at CN
          go_wp2_with (go_at_call 163; refine (CN _).mono ?_; rintro e w' ⟨rfl, rfl⟩)
          go_loopw [6] (fun i wz => ∃ j n : Nat, 1 ≤ j ∧ i = .int .i64 j ∧ wz = w1.drewN n ∧ ∀ y, 1 ≤ y → y < xs[k].length → y < j → starsAt xs[k] y = false) (fun i _ => xs[k].length - (intOf i).toNat)
          case atStart => exact ⟨1, n, Nat.le_refl _, rfl, rfl, fun y h1 _ h2 => by omega⟩
          case round =>
            obtain ⟨j, n', hj1, rfl, rfl, hno⟩ := hrel
            by_cases hjl : j < xs[k].length
            · have hji : (j : Int) < (xs[k].length : Int) := by omega
              cases ha : starsAt xs[k] j
              · have S : Hid (∀ y, 1 ≤ y → y < xs[k].length → y < j + 1 → starsAt xs[k] y = false) := fun y h1 h2 h3 => by
                  by_cases e : y = j
                  · subst e; exact ha
                  · exact hno y h1 h2 (by omega)
                obtain ⟨i, rfl⟩ : ∃ i, j = i + 1 := ⟨j - 1, by omega⟩
                have hil : i < xs[k].length := by omega
                by_cases hb : xs[k][i + 1] = 42
                · have t1 : ((xs[k][i + 1].toNat : Int) == 42) = true := by rw [hb]; rfl
                  have t2 : ((xs[k][i].toNat : Int) == 42) = false := by
                    unfold starsAt at ha
                    simp [hjl, hil, hb, ← UInt8.toNat_inj] at ha ⊢; omega
                  clear hno ha hb NEXT BK CN
                  go_wp2
                  go_roundw
                  case rel => exact ⟨i + 1 + 1, _, by omega, by go_num, rfl, S.out⟩
                  case measure => simp [intOf]; omega
                · have t1 : ((xs[k][i + 1].toNat : Int) == 42) = false := by
                    simp [← UInt8.toNat_inj] at hb ⊢; omega
                  clear hno ha hb NEXT BK CN
                  go_wp2
                  go_roundw
                  case rel => exact ⟨i + 1 + 1, _, by omega, by go_num, rfl, S.out⟩
                  case measure => simp [intOf]; omega
              · have R : Hid (isPatternL p = false) := BK.out (by unfold partOkL; rw [hss, hasStars_yes hj1 hjl ha]; simp)
                obtain ⟨i, rfl⟩ : ∃ i, j = i + 1 := ⟨j - 1, by omega⟩
                have hil : i < xs[k].length := by omega
                have t : xs[k][i + 1] = 42 ∧ xs[k][i] = 42 := by
                  unfold starsAt at ha
                  simpa [hjl, hil] using ha
                have t1 : ((xs[k][i + 1].toNat : Int) == 42) = true := by rw [t.1]; rfl
                have t2 : ((xs[k][i].toNat : Int) == 42) = true := by rw [t.2]; rfl
                clear hno ha t NEXT BK CN
                go_wp2
                go_ret
                exact ⟨by rw [R.out]; rfl, below_drewN HB.out _⟩
            · have hji : ¬ (j : Int) < (xs[k].length : Int) := by omega
              have R := NEXT.out (by unfold partOkL; rw [hnm, hasStars_no (fun y h1 h2 => hno y h1 h2 (by omega))]; simp)
              clear hno NEXT BK CN
              go_wp2
              go_roundw
              case rel => exact ⟨k + 1, _, by omega, by go_num, rfl, R⟩
              case measure => simp [intOf]; omega
      · have hss' : partOkL xs[k] = true := by unfold partOkL; rw [hss]; rfl
        have R := NEXT.out hss'
        clear NEXT BK CN
        go_wp2
        go_roundw
        case rel => exact ⟨k + 1, _, by omega, by go_num, rfl, R⟩
        case measure => simp [intOf]; omega
    · have R : Hid _ := END.out fun j hj => hall j hj (by omega)
      clear hall hcell1 BAD END
      go_wp2
      go_ret
      exact ⟨by rw [R.out]; first | rfl | (simp; omega), below_drewN HB.out _⟩

end Go.Proofs.YtdcbgfhkfmohiaaGreatDoor
