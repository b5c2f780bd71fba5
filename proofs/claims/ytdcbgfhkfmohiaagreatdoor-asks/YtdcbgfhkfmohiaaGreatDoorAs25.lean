/- The document's Check: what is wrong with a question; its words. -/
import Derived.Test.YtdcbgfhkfmohiaaGreatDoorAs24
namespace Go.Proofs.YtdcbgfhkfmohiaaGreatDoor
open Go.RowKit

/-- The slice v reads as these words. -/
def WordsAt (w : World) (v : Value) (xs : List Str) : Prop :=
  ∃ g cap, v = .slice (some ⟨g, 0, none⟩) xs.length cap ∧ xs.length ≤ cap ∧ cap ≤ maxLen ∧ g < w.heap.size ∧ ∀ k (h : k < xs.length), w.cell? ⟨g, k, none⟩ = some (SV xs[k])
theorem WordsAt.below {w W : World} {v : Value} {xs : List Str} (h : WordsAt w v xs) (hb : Below w.heap.size w W) : WordsAt W v xs := by
  obtain ⟨g, cap, h1, h2, h3, h4, h5⟩ := h
  exact ⟨g, cap, h1, h2, h3, by have := hb.size; omega, fun k hk => (hb.cell (p := ⟨g, k, none⟩) h4).trans (h5 k hk)⟩

def kExists : Str := [101, 120, 105, 115, 116, 115]
def kList : Str := [108, 105, 115, 116]
def kRead : Str := [114, 101, 97, 100]
def kGlob : Str := [103, 108, 111, 98]
def kFirst : Str := [102, 105, 114, 115, 116]

/-- Is the word at i, of a question of the kind k, as it must be? -/
def wordOk (k : Str) (i : Nat) (x : Str) : Bool := if k == kFirst && i == 1 then isNameL x false else isPlaceL x
def placesE (xs : List Str) : Nat := if (List.range xs.length).all (fun i => i == 0 || wordOk (xs.headD []) i (xs.getD i [])) then 0 else 3
/-- What is wrong with the words of a question. -/
def checkW (xs : List Str) : Nat :=
  if xs.any (· == []) then 10
  else if xs.headD [] == kGlob then (if xs.length = 2 then (if isPatternL (xs.getD 1 []) then 0 else 9) else 10)
  else if xs.headD [] == kFirst then (if xs.length < 3 then 10 else placesE xs)
  else if xs.headD [] == kExists || xs.headD [] == kList || xs.headD [] == kRead then (if xs.length = 2 then placesE xs else 10)
  else 10
def checkL (q : Str) : Nat := if 60 < q.length then 4 else checkW (splitL 32 q)

theorem places_bad {xs : List Str} {i : Nat} (h1 : 1 ≤ i) (hi : i < xs.length) (h : wordOk (xs.headD []) i xs[i] = false) : placesE xs = 3 := by
  unfold placesE
  generalize xs.headD [] = k at *
  rw [if_neg]
  intro ha
  have := List.all_eq_true.1 ha i (by simp [hi])
  simp [show ¬ i = 0 by omega, h, hi] at this
theorem places_good {xs : List Str} (h : ∀ i (hi : i < xs.length), 1 ≤ i → wordOk (xs.headD []) i xs[i] = true) : placesE xs = 0 := by
  unfold placesE
  generalize xs.headD [] = k at *
  rw [if_pos]
  rw [List.all_eq_true]
  intro i hi
  simp at hi
  by_cases h0 : i = 0
  · simp [h0]
  · simp [hi, h i hi (by omega)]

def CheckOut (w : World) (q : Str) (e : Ending) (w' : World) : Prop :=
  Below w.heap.size w w' ∧ ((checkL q = 0 ∧ ∃ v, e = .returned (.tuple #[v, .int .i64 0]) ∧ WordsAt w' v (splitL 32 q)) ∨ (checkL q ≠ 0 ∧ e = .returned (.tuple #[.slice none 0 0, .int .i64 (checkL q)])))

theorem CheckOut.bad {w w' : World} {q : Str} {n : Nat} (hb : Below w.heap.size w w') (h : checkL q = n) (hn : n ≠ 0) : CheckOut w q (.returned (.tuple #[.slice none 0 0, .int .i64 n])) w' := ⟨hb, .inr ⟨by omega, by rw [h]⟩⟩

set_option maxHeartbeats 4000000 in
set_option maxRecDepth 50000 in
theorem check_any (q : Str) (w : World) (hq : q.length + 1 < maxLen) :
    Calls Tryz.prog 139 #[SV q] w fun e w' => CheckOut w q e w' := by
  unfold maxLen at hq
  have hc : (UInt8.toNat 32 : Int) = 32 := rfl
  by_cases h60 : 60 < q.length
  · have R : Hid (CheckOut w q (.returned (.tuple #[.slice none 0 0, .int .i64 (4 : Nat)])) w) := CheckOut.bad (Below.refl _ _) (by unfold checkL; rw [if_pos h60]) (by omega)
    have h60' : (60 : Int) < q.length := by omega
    go_enter Tryz.func139, Tryz.ntmps139
    go_wp2_with fail
    go_ret2
    exact R.out
  have h60' : ¬ (60 : Int) < q.length := by omega
  have HQ : Hid (checkL q = checkW (splitL 32 q)) := by unfold checkL; rw [Hid, if_neg h60]
  have hne1 := splitL_ne 32 q
  have hl1 := splitL_len 32 q
  have hpc1 := splitL_piece 32 q
  go_enter Tryz.func139, Tryz.ntmps139
  go_wp2_with fail
  refine (split_any q 32 _ (by omega)).mono ?_
  rintro e w1 ⟨v1, rfl, hown1, hbel1⟩
  rcases strs_cells hown1 with ⟨rfl, h0, h2⟩ | ⟨g1, cap1, rfl, hn1, hg1, hgb1, hcap1, hm1, hcell1⟩
  · exact absurd h2 hne1
  have HB : Hid (Below w.heap.size w w1) := hbel1
  have hq1 : (splitL 32 q).length ≤ 61 := by omega
  have hpc : Hid (∀ x ∈ splitL 32 q, x.length ≤ 60) := fun x hx => by have := hpc1 x hx; omega
  have HW : Hid (∀ W, Below w1.heap.size w1 W → WordsAt W (.slice (some ⟨g1, 0, none⟩) (splitL 32 q).length cap1) (splitL 32 q)) := fun W hb => WordsAt.below ⟨g1, cap1, rfl, hcap1, hm1, hg1, hcell1⟩ hb
  have HC : Hid (∀ W, Below w1.heap.size w1 W → ∀ k (h : k < (splitL 32 q).length), W.cell? ⟨g1, k, none⟩ = some (SV (splitL 32 q)[k])) := fun W hb k h => (hb.cell (p := ⟨g1, k, none⟩) hg1).trans (hcell1 k h)
  have BADR : Hid (∀ (n : Nat) W, checkW (splitL 32 q) = n → n ≠ 0 → Below w1.heap.size w1 W → CheckOut w q (.returned (.tuple #[.slice none 0 0, .int .i64 n])) W) := fun n W h hn hb => CheckOut.bad (HB.out.trans (hb.mono HB.out.size)) (by rw [HQ.out, h]) hn
  have OKR : Hid (∀ W, checkW (splitL 32 q) = 0 → Below w1.heap.size w1 W → CheckOut w q (.returned (.tuple #[.slice (some ⟨g1, 0, none⟩) (splitL 32 q).length cap1, .int .i64 0])) W) := fun W h hb => ⟨HB.out.trans (hb.mono HB.out.size), .inl ⟨by rw [HQ.out, h], _, rfl, HW.out W hb⟩⟩
  clear hown1 hbel1 hgb1 hn1 hpc1 hl1 HW HQ
  generalize splitL 32 q = xs at *
  unfold maxLen at hm1
  have h0l : 0 < xs.length := List.length_pos_iff.2 hne1
  go_wp2
  go_loopw [5] (fun i wr => ∃ k : Nat, k ≤ xs.length ∧ i = .int .i64 k ∧ wr = w1 ∧ ∀ j (hj : j < xs.length), j < k → (xs[j] == []) = false) (fun i _ => xs.length - (intOf i).toNat)
  case atStart => exact ⟨0, Nat.zero_le _, rfl, rfl, fun j _ h => by omega⟩
  case round =>
    obtain ⟨k, hk, rfl, hw, hall⟩ := hrel
    have hw' := hw.symm
    subst hw'
    clear hw
    by_cases hlt : k < xs.length
    · have ck := hcell1 k hlt
      cases he : (xs[k] == [])
      · have R := str_step (q := fun x => x == []) hlt hall he
        clear hall hcell1
        go_wp2
        go_roundw
        case rel => exact ⟨k + 1, by omega, by go_num, trivial, R⟩
        case measure => simp [intOf]; omega
      · have R : Hid _ := BADR.out 10 w1 (by unfold checkW; rw [if_pos (List.any_eq_true.2 ⟨_, List.getElem_mem hlt, he⟩)]) (by omega) (Below.refl _ _)
        clear hall hcell1 BADR OKR
        go_wp2
        go_ret2
        exact R.out
    · have hany : Hid (xs.any (· == []) = false) := List.any_eq_false.2 fun x hx => by
        obtain ⟨j, hj, rfl⟩ := List.getElem_of_mem hx
        simpa using hall j hj (by omega)
      have hki : ¬ (k : Int) < (xs.length : Int) := by omega
      have hhd : Hid (xs.headD [] = xs[0]) := by
        cases xs with
        | nil => exact absurd rfl hne1
        | cons a l => rfl
      have c0 := hcell1 0 h0l
      have HX0 : Hid (∀ x0, x0 = xs[0] → checkW xs = if x0 == kGlob then (if xs.length = 2 then (if isPatternL (xs.getD 1 []) then 0 else 9) else 10) else if x0 == kFirst then (if xs.length < 3 then 10 else placesE xs) else if x0 == kExists || x0 == kList || x0 == kRead then (if xs.length = 2 then placesE xs else 10) else 10) := fun x0 h => by
        subst h; unfold checkW; rw [hany.out, hhd.out]; rfl
      have PB : Hid (∀ i (hi : i < xs.length), 1 ≤ i → wordOk xs[0] i xs[i] = false → placesE xs = 3) := fun i hi h1 h => places_bad h1 hi (by rw [hhd.out]; exact h)
      have PG : Hid ((∀ i (hi : i < xs.length), 1 ≤ i → wordOk xs[0] i xs[i] = true) → placesE xs = 0) := fun h => places_good (by rw [hhd.out]; exact h)
      obtain ⟨x0, hx0⟩ : ∃ x0, x0 = xs[0] := ⟨_, rfl⟩
      have CK : Hid _ := HX0.out x0 hx0
      rw [← hx0] at c0 PB PG
      have HX : Hid _ := hx0
      clear hall HX0 hany hhd hx0 hne1
      by_cases kG : (x0 == [103, 108, 111, 98]) = true
      · by_cases h2 : xs.length = 2
        · have h1l : 1 < xs.length := by omega
          have c1 := hcell1 1 h1l
          have CP : Hid (Calls Tryz.prog 166 #[SV xs[1]] w1 fun e w' => e = .returned (.bool (isPatternL xs[1])) ∧ Below w1.heap.size w1 w') := isPattern_any xs[1] w1 (by have := hpc.out _ (List.getElem_mem h1l); omega)
          have e1 : xs.getD 1 [] = xs[1] := by simp [List.getD, h1l]
          have CK2 : Hid (checkW xs = if isPatternL xs[1] then 0 else 9) := by
            have := CK.out
            rw [show (x0 == kGlob) = true from kG, if_pos rfl, if_pos h2, e1] at this
            exact this
          simp at kG
          subst kG
          have h2i : (xs.length : Int) = 2 := by omega
          clear hcell1 e1 CK h2
          cases hP : isPatternL xs[1]
          · rw [hP] at CP CK2
            have R := BADR.out 9
            clear BADR OKR
            go_wp2_with fail
            refine CP.out.mono ?_
            rintro e w3 ⟨rfl, hb3⟩
            have R2 : Hid _ := R w3 CK2.out (by omega) hb3
            clear R hb3
            go_wp2
            go_ret2
            exact R2.out
          · rw [hP] at CP CK2
            have R := OKR.out
            clear BADR OKR
            go_wp2_with fail
            refine CP.out.mono ?_
            rintro e w3 ⟨rfl, hb3⟩
            have R2 : Hid _ := R w3 CK2.out hb3
            clear R hb3
            go_wp2
            go_ret2
            exact R2.out
        · have R : Hid _ := BADR.out 10 w1 (by
            have := CK.out
            rw [show (x0 == kGlob) = true from kG, if_pos rfl, if_neg h2] at this
            exact this) (by omega) (Below.refl _ _)
          simp at kG
          subst kG
          have h2i : ¬ (xs.length : Int) = 2 := by omega
          clear hcell1 CK h2 BADR OKR
          go_wp2
          go_ret2
          exact R.out
      · have kG' : (x0 == kGlob) = false := by simpa [kGlob] using kG
        by_cases kF : (x0 == [102, 105, 114, 115, 116]) = true
        · by_cases h3 : xs.length < 3
          · have R : Hid _ := BADR.out 10 w1 (by
              have := CK.out
              rw [kG', show (x0 == kFirst) = true from kF, if_neg (by simp), if_pos rfl, if_pos h3] at this
              exact this) (by omega) (Below.refl _ _)
            simp at kF
            subst kF
            have h2i : (xs.length : Int) < 3 := by omega
            clear hcell1 CK h3 BADR OKR kG kG'
            go_wp2
            go_ret2
            exact R.out
          · have CK2 : Hid (checkW xs = placesE xs) := by
              have := CK.out
              rw [kG', show (x0 == kFirst) = true from kF, if_neg (by simp), if_pos rfl, if_neg h3] at this
              exact this
            simp at kF
            subst kF
            have h2i : ¬ (xs.length : Int) < 3 := by omega
            clear CK kG kG' hcell1
            have BAD3 : Hid (∀ i (hi : i < xs.length), 1 ≤ i → wordOk ([102, 105, 114, 115, 116] : Str) i xs[i] = false → ∀ W, Below w1.heap.size w1 W → CheckOut w q (.returned (.tuple #[.slice none 0 0, .int .i64 (3 : Nat)])) W) := fun i hi h1 h W hb => BADR.out 3 W (by rw [CK2.out]; exact PB.out i hi h1 h) (by omega) hb
            have GOOD : Hid ((∀ i (hi : i < xs.length), 1 ≤ i → wordOk ([102, 105, 114, 115, 116] : Str) i xs[i] = true) → ∀ W, Below w1.heap.size w1 W → CheckOut w q (.returned (.tuple #[.slice (some ⟨g1, 0, none⟩) xs.length cap1, .int .i64 0])) W) := fun h W hb => OKR.out W (by rw [CK2.out]; exact PG.out h) hb
            clear BADR OKR PB PG CK2
            go_wp2
            go_loopw [7] (fun i wz => ∃ j : Nat, 1 ≤ j ∧ j ≤ xs.length ∧ i = .int .i64 j ∧ Below w1.heap.size w1 wz ∧ ∀ y (hy : y < xs.length), 1 ≤ y → y < j → wordOk ([102, 105, 114, 115, 116] : Str) y xs[y] = true) (fun i _ => xs.length - (intOf i).toNat)
            case atStart => exact ⟨1, Nat.le_refl _, by omega, rfl, Below.refl _ _, fun y _ h1 h2 => by omega⟩
            case round =>
              obtain ⟨j, hj1, hjl, rfl, hbz, hpl⟩ := hrel
              by_cases hjx : j < xs.length
              · have hji : (j : Int) < (xs.length : Int) := by omega
                have cz0 : wr.cell? ⟨g1, 0, none⟩ = some (SV ([102, 105, 114, 115, 116] : Str)) := (hbz.cell (p := ⟨g1, 0, none⟩) hg1).trans c0
                have czj : wr.cell? ⟨g1, j, none⟩ = some (SV xs[j]) := HC.out wr hbz j hjx
                have NX : Hid (wordOk ([102, 105, 114, 115, 116] : Str) j xs[j] = true → ∀ y (hy : y < xs.length), 1 ≤ y → y < j + 1 → wordOk ([102, 105, 114, 115, 116] : Str) y xs[y] = true) := fun h y hy h1 h2 => by
                  by_cases e : y = j
                  · subst e; exact h
                  · exact hpl y hy h1 (by omega)
                have B3 : Hid _ := BAD3.out j hjx hj1
                have hxl := hpc.out _ (List.getElem_mem hjx)
                have CI := isPlace_any xs[j] wr (by unfold maxLen; omega)
                have HBZ : Hid (Below w1.heap.size w1 wr) := hbz
                clear hpl BAD3 GOOD c0
                by_cases hj : j = 1
                · subst hj
                  have RES : Hid (wordOk ([102, 105, 114, 115, 116] : Str) 1 xs[1] = isNameL xs[1] false) := by unfold wordOk; rw [Hid, if_pos (by simp [kFirst])]
                  have CN := fun W => isName_any xs[1] false W (by unfold maxLen; omega)
                  generalize isPlaceL xs[1] = bp at *
                  cases hpj : isNameL xs[1] false
                  · rw [hpj] at CN
                    go_wp2_with fail
                    refine CI.mono ?_
                    rintro e w4 ⟨rfl, hb4⟩
                    have cz4 := (hb4.cell (p := ⟨g1, 0, none⟩) (by have := HBZ.out.size; simp only; omega)).trans cz0
                    have cz5 := (hb4.cell (p := ⟨g1, 1, none⟩) (by have := HBZ.out.size; simp only; omega)).trans czj
                    have R : Hid _ := B3.out (by rw [RES.out, hpj]) w4 (HBZ.out.trans (hb4.mono HBZ.out.size))
                    clear cz0 czj CI B3 NX hb4 hbz
                    go_wp2_with (go_at_call 163; refine (CN _).mono ?_; rintro e w' ⟨rfl, rfl⟩)
                    go_ret2
                    exact R.out
                  · rw [hpj] at CN
                    go_wp2_with fail
                    refine CI.mono ?_
                    rintro e w4 ⟨rfl, hb4⟩
                    have cz4 := (hb4.cell (p := ⟨g1, 0, none⟩) (by have := HBZ.out.size; simp only; omega)).trans cz0
                    have cz5 := (hb4.cell (p := ⟨g1, 1, none⟩) (by have := HBZ.out.size; simp only; omega)).trans czj
                    have HB4 : Hid (Below w1.heap.size w1 w4) := HBZ.out.trans (hb4.mono HBZ.out.size)
                    have R : Hid _ := NX.out (by rw [RES.out, hpj])
                    clear cz0 czj CI B3 NX hb4 hbz
                    go_wp2_with (go_at_call 163; refine (CN _).mono ?_; rintro e w' ⟨rfl, rfl⟩)
                    go_roundw
                    case rel => exact ⟨1 + 1, by omega, by omega, by go_num, HB4.out, R.out⟩
                    case measure => simp [intOf]; omega
                · have hj1i : ((j : Int) == 1) = false := by simp; omega
                  have RES : Hid (wordOk ([102, 105, 114, 115, 116] : Str) j xs[j] = isPlaceL xs[j]) := by unfold wordOk; rw [Hid, if_neg (by simp [hj])]
                  cases hpj : isPlaceL xs[j]
                  · rw [hpj] at CI
                    go_wp2_with fail
                    refine CI.mono ?_
                    rintro e w4 ⟨rfl, hb4⟩
                    have cz4 := (hb4.cell (p := ⟨g1, 0, none⟩) (by have := HBZ.out.size; simp only; omega)).trans cz0
                    have R : Hid _ := B3.out (by rw [RES.out, hpj]) w4 (HBZ.out.trans (hb4.mono HBZ.out.size))
                    clear cz0 czj CI B3 NX hb4 hbz
                    go_wp2
                    go_ret2
                    exact R.out
                  · rw [hpj] at CI
                    go_wp2_with fail
                    refine CI.mono ?_
                    rintro e w4 ⟨rfl, hb4⟩
                    have cz4 := (hb4.cell (p := ⟨g1, 0, none⟩) (by have := HBZ.out.size; simp only; omega)).trans cz0
                    have HB4 : Hid (Below w1.heap.size w1 w4) := HBZ.out.trans (hb4.mono HBZ.out.size)
                    have R : Hid _ := NX.out (by rw [RES.out, hpj])
                    clear cz0 czj CI B3 NX hb4 hbz
                    go_wp2
                    go_roundw
                    case rel => exact ⟨j + 1, by omega, by omega, by go_num, HB4.out, R.out⟩
                    case measure => simp [intOf]; omega
              · have hji : ¬ (j : Int) < (xs.length : Int) := by omega
                have R : Hid _ := GOOD.out (fun y hy h1 => hpl y hy h1 (by omega)) wr hbz
                clear hpl BAD3 GOOD hbz
                go_wp2
                go_ret2
                exact R.out
        · have kF' : (x0 == kFirst) = false := by simpa [kFirst] using kF
          by_cases kE : x0 = [101, 120, 105, 115, 116, 115] ∨ x0 = [108, 105, 115, 116] ∨ x0 = [114, 101, 97, 100]
          · have kE' : (x0 == kExists || x0 == kList || x0 == kRead) = true := by rcases kE with rfl | rfl | rfl <;> rfl
            by_cases h2 : xs.length = 2
            · have CK2 : Hid (checkW xs = placesE xs) := by
                have := CK.out
                rw [kG', kF', kE', if_neg (by simp), if_neg (by simp), if_pos rfl, if_pos h2] at this
                exact this
              have h2i : (xs.length : Int) = 2 := by omega
              have h2g : 1 < xs.length := by omega
              clear CK kG kG' kF kF' kE' hcell1 h2
              rcases kE with rfl | rfl | rfl
              · have BAD3 : Hid (∀ i (hi : i < xs.length), 1 ≤ i → wordOk ([101, 120, 105, 115, 116, 115] : Str) i xs[i] = false → ∀ W, Below w1.heap.size w1 W → CheckOut w q (.returned (.tuple #[.slice none 0 0, .int .i64 (3 : Nat)])) W) := fun i hi h1 h W hb => BADR.out 3 W (by rw [CK2.out]; exact PB.out i hi h1 h) (by omega) hb
                have GOOD : Hid ((∀ i (hi : i < xs.length), 1 ≤ i → wordOk ([101, 120, 105, 115, 116, 115] : Str) i xs[i] = true) → ∀ W, Below w1.heap.size w1 W → CheckOut w q (.returned (.tuple #[.slice (some ⟨g1, 0, none⟩) xs.length cap1, .int .i64 0])) W) := fun h W hb => OKR.out W (by rw [CK2.out]; exact PG.out h) hb
                clear BADR OKR PB PG CK2
                go_wp2
                go_loopw [7] (fun i wz => ∃ j : Nat, 1 ≤ j ∧ j ≤ xs.length ∧ i = .int .i64 j ∧ Below w1.heap.size w1 wz ∧ ∀ y (hy : y < xs.length), 1 ≤ y → y < j → wordOk ([101, 120, 105, 115, 116, 115] : Str) y xs[y] = true) (fun i _ => xs.length - (intOf i).toNat)
                case atStart => exact ⟨1, Nat.le_refl _, by omega, rfl, Below.refl _ _, fun y _ h1 h2 => by omega⟩
                case round =>
                  obtain ⟨j, hj1, hjl, rfl, hbz, hpl⟩ := hrel
                  by_cases hjx : j < xs.length
                  · have hji : (j : Int) < (xs.length : Int) := by omega
                    have cz0 : wr.cell? ⟨g1, 0, none⟩ = some (SV ([101, 120, 105, 115, 116, 115] : Str)) := (hbz.cell (p := ⟨g1, 0, none⟩) hg1).trans c0
                    have czj : wr.cell? ⟨g1, j, none⟩ = some (SV xs[j]) := HC.out wr hbz j hjx
                    have NX : Hid (wordOk ([101, 120, 105, 115, 116, 115] : Str) j xs[j] = true → ∀ y (hy : y < xs.length), 1 ≤ y → y < j + 1 → wordOk ([101, 120, 105, 115, 116, 115] : Str) y xs[y] = true) := fun h y hy h1 h2 => by
                      by_cases e : y = j
                      · subst e; exact h
                      · exact hpl y hy h1 (by omega)
                    have B3 : Hid _ := BAD3.out j hjx hj1
                    have hxl := hpc.out _ (List.getElem_mem hjx)
                    have CI := isPlace_any xs[j] wr (by unfold maxLen; omega)
                    have HBZ : Hid (Below w1.heap.size w1 wr) := hbz
                    clear hpl BAD3 GOOD c0
                    have RES : Hid (wordOk ([101, 120, 105, 115, 116, 115] : Str) j xs[j] = isPlaceL xs[j]) := by unfold wordOk; rw [Hid, if_neg (by simp [kFirst])]
                    cases hpj : isPlaceL xs[j]
                    · rw [hpj] at CI
                      go_wp2_with fail
                      refine CI.mono ?_
                      rintro e w4 ⟨rfl, hb4⟩
                      have cz4 := (hb4.cell (p := ⟨g1, 0, none⟩) (by have := HBZ.out.size; simp only; omega)).trans cz0
                      have R : Hid _ := B3.out (by rw [RES.out, hpj]) w4 (HBZ.out.trans (hb4.mono HBZ.out.size))
                      clear cz0 czj CI B3 NX hb4 hbz
                      go_wp2
                      go_ret2
                      exact R.out
                    · rw [hpj] at CI
                      go_wp2_with fail
                      refine CI.mono ?_
                      rintro e w4 ⟨rfl, hb4⟩
                      have cz4 := (hb4.cell (p := ⟨g1, 0, none⟩) (by have := HBZ.out.size; simp only; omega)).trans cz0
                      have HB4 : Hid (Below w1.heap.size w1 w4) := HBZ.out.trans (hb4.mono HBZ.out.size)
                      have R : Hid _ := NX.out (by rw [RES.out, hpj])
                      clear cz0 czj CI B3 NX hb4 hbz
                      go_wp2
                      go_roundw
                      case rel => exact ⟨j + 1, by omega, by omega, by go_num, HB4.out, R.out⟩
                      case measure => simp [intOf]; omega
                  · have hji : ¬ (j : Int) < (xs.length : Int) := by omega
                    have R : Hid _ := GOOD.out (fun y hy h1 => hpl y hy h1 (by omega)) wr hbz
                    clear hpl BAD3 GOOD hbz
                    go_wp2
                    go_ret2
                    exact R.out
              · have BAD3 : Hid (∀ i (hi : i < xs.length), 1 ≤ i → wordOk ([108, 105, 115, 116] : Str) i xs[i] = false → ∀ W, Below w1.heap.size w1 W → CheckOut w q (.returned (.tuple #[.slice none 0 0, .int .i64 (3 : Nat)])) W) := fun i hi h1 h W hb => BADR.out 3 W (by rw [CK2.out]; exact PB.out i hi h1 h) (by omega) hb
                have GOOD : Hid ((∀ i (hi : i < xs.length), 1 ≤ i → wordOk ([108, 105, 115, 116] : Str) i xs[i] = true) → ∀ W, Below w1.heap.size w1 W → CheckOut w q (.returned (.tuple #[.slice (some ⟨g1, 0, none⟩) xs.length cap1, .int .i64 0])) W) := fun h W hb => OKR.out W (by rw [CK2.out]; exact PG.out h) hb
                clear BADR OKR PB PG CK2
                go_wp2
                go_loopw [7] (fun i wz => ∃ j : Nat, 1 ≤ j ∧ j ≤ xs.length ∧ i = .int .i64 j ∧ Below w1.heap.size w1 wz ∧ ∀ y (hy : y < xs.length), 1 ≤ y → y < j → wordOk ([108, 105, 115, 116] : Str) y xs[y] = true) (fun i _ => xs.length - (intOf i).toNat)
                case atStart => exact ⟨1, Nat.le_refl _, by omega, rfl, Below.refl _ _, fun y _ h1 h2 => by omega⟩
                case round =>
                  obtain ⟨j, hj1, hjl, rfl, hbz, hpl⟩ := hrel
                  by_cases hjx : j < xs.length
                  · have hji : (j : Int) < (xs.length : Int) := by omega
                    have cz0 : wr.cell? ⟨g1, 0, none⟩ = some (SV ([108, 105, 115, 116] : Str)) := (hbz.cell (p := ⟨g1, 0, none⟩) hg1).trans c0
                    have czj : wr.cell? ⟨g1, j, none⟩ = some (SV xs[j]) := HC.out wr hbz j hjx
                    have NX : Hid (wordOk ([108, 105, 115, 116] : Str) j xs[j] = true → ∀ y (hy : y < xs.length), 1 ≤ y → y < j + 1 → wordOk ([108, 105, 115, 116] : Str) y xs[y] = true) := fun h y hy h1 h2 => by
                      by_cases e : y = j
                      · subst e; exact h
                      · exact hpl y hy h1 (by omega)
                    have B3 : Hid _ := BAD3.out j hjx hj1
                    have hxl := hpc.out _ (List.getElem_mem hjx)
                    have CI := isPlace_any xs[j] wr (by unfold maxLen; omega)
                    have HBZ : Hid (Below w1.heap.size w1 wr) := hbz
                    clear hpl BAD3 GOOD c0
                    have RES : Hid (wordOk ([108, 105, 115, 116] : Str) j xs[j] = isPlaceL xs[j]) := by unfold wordOk; rw [Hid, if_neg (by simp [kFirst])]
                    cases hpj : isPlaceL xs[j]
                    · rw [hpj] at CI
                      go_wp2_with fail
                      refine CI.mono ?_
                      rintro e w4 ⟨rfl, hb4⟩
                      have cz4 := (hb4.cell (p := ⟨g1, 0, none⟩) (by have := HBZ.out.size; simp only; omega)).trans cz0
                      have R : Hid _ := B3.out (by rw [RES.out, hpj]) w4 (HBZ.out.trans (hb4.mono HBZ.out.size))
                      clear cz0 czj CI B3 NX hb4 hbz
                      go_wp2
                      go_ret2
                      exact R.out
                    · rw [hpj] at CI
                      go_wp2_with fail
                      refine CI.mono ?_
                      rintro e w4 ⟨rfl, hb4⟩
                      have cz4 := (hb4.cell (p := ⟨g1, 0, none⟩) (by have := HBZ.out.size; simp only; omega)).trans cz0
                      have HB4 : Hid (Below w1.heap.size w1 w4) := HBZ.out.trans (hb4.mono HBZ.out.size)
                      have R : Hid _ := NX.out (by rw [RES.out, hpj])
                      clear cz0 czj CI B3 NX hb4 hbz
                      go_wp2
                      go_roundw
                      case rel => exact ⟨j + 1, by omega, by omega, by go_num, HB4.out, R.out⟩
                      case measure => simp [intOf]; omega
                  · have hji : ¬ (j : Int) < (xs.length : Int) := by omega
                    have R : Hid _ := GOOD.out (fun y hy h1 => hpl y hy h1 (by omega)) wr hbz
                    clear hpl BAD3 GOOD hbz
                    go_wp2
                    go_ret2
                    exact R.out
              · have BAD3 : Hid (∀ i (hi : i < xs.length), 1 ≤ i → wordOk ([114, 101, 97, 100] : Str) i xs[i] = false → ∀ W, Below w1.heap.size w1 W → CheckOut w q (.returned (.tuple #[.slice none 0 0, .int .i64 (3 : Nat)])) W) := fun i hi h1 h W hb => BADR.out 3 W (by rw [CK2.out]; exact PB.out i hi h1 h) (by omega) hb
                have GOOD : Hid ((∀ i (hi : i < xs.length), 1 ≤ i → wordOk ([114, 101, 97, 100] : Str) i xs[i] = true) → ∀ W, Below w1.heap.size w1 W → CheckOut w q (.returned (.tuple #[.slice (some ⟨g1, 0, none⟩) xs.length cap1, .int .i64 0])) W) := fun h W hb => OKR.out W (by rw [CK2.out]; exact PG.out h) hb
                clear BADR OKR PB PG CK2
                go_wp2
                go_loopw [7] (fun i wz => ∃ j : Nat, 1 ≤ j ∧ j ≤ xs.length ∧ i = .int .i64 j ∧ Below w1.heap.size w1 wz ∧ ∀ y (hy : y < xs.length), 1 ≤ y → y < j → wordOk ([114, 101, 97, 100] : Str) y xs[y] = true) (fun i _ => xs.length - (intOf i).toNat)
                case atStart => exact ⟨1, Nat.le_refl _, by omega, rfl, Below.refl _ _, fun y _ h1 h2 => by omega⟩
                case round =>
                  obtain ⟨j, hj1, hjl, rfl, hbz, hpl⟩ := hrel
                  by_cases hjx : j < xs.length
                  · have hji : (j : Int) < (xs.length : Int) := by omega
                    have cz0 : wr.cell? ⟨g1, 0, none⟩ = some (SV ([114, 101, 97, 100] : Str)) := (hbz.cell (p := ⟨g1, 0, none⟩) hg1).trans c0
                    have czj : wr.cell? ⟨g1, j, none⟩ = some (SV xs[j]) := HC.out wr hbz j hjx
                    have NX : Hid (wordOk ([114, 101, 97, 100] : Str) j xs[j] = true → ∀ y (hy : y < xs.length), 1 ≤ y → y < j + 1 → wordOk ([114, 101, 97, 100] : Str) y xs[y] = true) := fun h y hy h1 h2 => by
                      by_cases e : y = j
                      · subst e; exact h
                      · exact hpl y hy h1 (by omega)
                    have B3 : Hid _ := BAD3.out j hjx hj1
                    have hxl := hpc.out _ (List.getElem_mem hjx)
                    have CI := isPlace_any xs[j] wr (by unfold maxLen; omega)
                    have HBZ : Hid (Below w1.heap.size w1 wr) := hbz
                    clear hpl BAD3 GOOD c0
                    have RES : Hid (wordOk ([114, 101, 97, 100] : Str) j xs[j] = isPlaceL xs[j]) := by unfold wordOk; rw [Hid, if_neg (by simp [kFirst])]
                    cases hpj : isPlaceL xs[j]
                    · rw [hpj] at CI
                      go_wp2_with fail
                      refine CI.mono ?_
                      rintro e w4 ⟨rfl, hb4⟩
                      have cz4 := (hb4.cell (p := ⟨g1, 0, none⟩) (by have := HBZ.out.size; simp only; omega)).trans cz0
                      have R : Hid _ := B3.out (by rw [RES.out, hpj]) w4 (HBZ.out.trans (hb4.mono HBZ.out.size))
                      clear cz0 czj CI B3 NX hb4 hbz
                      go_wp2
                      go_ret2
                      exact R.out
                    · rw [hpj] at CI
                      go_wp2_with fail
                      refine CI.mono ?_
                      rintro e w4 ⟨rfl, hb4⟩
                      have cz4 := (hb4.cell (p := ⟨g1, 0, none⟩) (by have := HBZ.out.size; simp only; omega)).trans cz0
                      have HB4 : Hid (Below w1.heap.size w1 w4) := HBZ.out.trans (hb4.mono HBZ.out.size)
                      have R : Hid _ := NX.out (by rw [RES.out, hpj])
                      clear cz0 czj CI B3 NX hb4 hbz
                      go_wp2
                      go_roundw
                      case rel => exact ⟨j + 1, by omega, by omega, by go_num, HB4.out, R.out⟩
                      case measure => simp [intOf]; omega
                  · have hji : ¬ (j : Int) < (xs.length : Int) := by omega
                    have R : Hid _ := GOOD.out (fun y hy h1 => hpl y hy h1 (by omega)) wr hbz
                    clear hpl BAD3 GOOD hbz
                    go_wp2
                    go_ret2
                    exact R.out
            · have R : Hid _ := BADR.out 10 w1 (by
                have := CK.out
                rw [kG', kF', kE', if_neg (by simp), if_neg (by simp), if_pos rfl, if_neg h2] at this
                exact this) (by omega) (Below.refl _ _)
              have h2i : ¬ (xs.length : Int) = 2 := by omega
              clear hcell1 CK h2 BADR OKR kG kG' kF kF' kE'
              rcases kE with rfl | rfl | rfl
              all_goals
                go_wp2
                go_ret2
                exact R.out
          · have n1 : (x0 == [101, 120, 105, 115, 116, 115]) = false := by simp; exact fun h => kE (.inl h)
            have n2 : (x0 == [108, 105, 115, 116]) = false := by simp; exact fun h => kE (.inr (.inl h))
            have n3 : (x0 == [114, 101, 97, 100]) = false := by simp; exact fun h => kE (.inr (.inr h))
            have n4 : (x0 == [103, 108, 111, 98]) = false := kG'
            have n5 : (x0 == [102, 105, 114, 115, 116]) = false := kF'
            have R : Hid _ := BADR.out 10 w1 (by
              have := CK.out
              rw [kG', kF', show (x0 == kExists || x0 == kList || x0 == kRead) = false by rw [show (x0 == kExists) = false from n1, show (x0 == kList) = false from n2, show (x0 == kRead) = false from n3]; rfl, if_neg (by simp), if_neg (by simp), if_neg (by simp)] at this
              exact this) (by omega) (Below.refl _ _)
            clear hcell1 CK BADR OKR kG kG' kF kF' kE
            go_wp2
            go_ret2
            exact R.out

end Go.Proofs.YtdcbgfhkfmohiaaGreatDoor

/- What the document answers to a question: the pure words. No program. -/
namespace Go.Proofs.YtdcbgfhkfmohiaaGreatDoor
open Go.RowKit

/-- How a path shows in the list of its directory: its first name, with a slash behind it where the path goes on. -/
def labelL (p : Str) : Str := if 1 < (splitL 47 p).length then (splitL 47 p).headD [] ++ [47] else (splitL 47 p).headD []
def sepI (i : Nat) : Str := if i = 0 then [] else [32]
def listStep (i : Nat) (st : Str × Str) (f : Fl) : Str × Str := if labelL f.1 == st.2 then st else (st.1 ++ (sepI i ++ labelL f.1), labelL f.1)
def listF : Nat → Str × Str → List Fl → Str × Str
  | _, st, [] => st
  | i, st, f :: l => listF (i + 1) (listStep i st f) l
def listedL (l : List Fl) : Str := (listF 0 ([58], []) l).1

theorem listF_app (i : Nat) (st : Str × Str) (l m : List Fl) : listF i st (l ++ m) = listF (i + l.length) (listF i st l) m := by
  induction l generalizing i st with
  | nil => simp [listF]
  | cons f l ih => rw [List.cons_append, listF, ih, listF, List.length_cons, Nat.add_assoc, Nat.add_comm 1]
theorem listF_take {l : List Fl} {k : Nat} (hk : k < l.length) : listF 0 ([58], []) (l.take (k + 1)) = listStep k (listF 0 ([58], []) (l.take k)) l[k] := by
  rw [List.take_succ_eq_append_getElem hk, listF_app, listF, listF, List.length_take, Nat.min_eq_left (by omega), Nat.zero_add]
theorem labelL_len (p : Str) : (labelL p).length ≤ p.length + 1 := by
  unfold labelL
  have h : ((splitL 47 p).headD []).length ≤ p.length := by
    cases h : splitL 47 p with
    | nil => exact absurd h (splitL_ne 47 p)
    | cons x r => exact splitL_piece 47 p x (by rw [h]; simp)
  split
  · rw [List.length_append, List.length_singleton]; omega
  · omega
theorem listF_len {l : List Fl} (hs : ∀ f ∈ l, f.1.length ≤ 1000) (k : Nat) : (listF 0 ([58], []) (l.take k)).1.length ≤ 1 + 1002 * k ∧ (listF 0 ([58], []) (l.take k)).2.length ≤ 1001 := by
  induction k with
  | zero => simp [listF]
  | succ k ih =>
    by_cases hk : k < l.length
    · rw [listF_take hk]
      have h1 := labelL_len l[k].1
      have h2 := hs l[k] (List.getElem_mem hk)
      unfold listStep
      split
      · exact ⟨by omega, ih.2⟩
      · simp only [List.length_append]
        refine ⟨?_, by omega⟩
        have : (sepI k).length ≤ 1 := by unfold sepI; split <;> simp
        omega
    · rw [List.take_of_length_le (by omega)] at *; exact ⟨by omega, ih.2⟩

def noT : Str := [110, 111]
def fileT : Str := [102, 105, 108, 101]
def dirT : Str := [100, 105, 114, 101, 99, 116, 111, 114, 121]
/-- Where first looks: the name in that directory. -/
def inDir (d x : Str) : Str := if d == [47] then x else d ++ 47 :: x
def globL (l : List Fl) (p : Str) : Str := l.flatMap fun f => if fitsL p f.1 then f.1 ++ [10] else []
def firstL (l : List Fl) (x : Str) : List Str → Str
  | [] => noT
  | d :: ds => if 0 ≤ getI l (inDir d x) then inDir d x else firstL l x ds
def kindL (l : List Fl) (p : Str) : Str := if 0 ≤ getI l p then fileT else if isDirL l p then dirT else noT
def readL (l : List Fl) (p : Str) : Str := if 0 ≤ getI l p then 61 :: dataAt l (getI l p) else noT
def listL (l : List Fl) (p : Str) : Str := if isDirL l p then listedL (inL l p) else noT
/-- The answer to a question's words. -/
def answerL (l : List Fl) (xs : List Str) : Str :=
  if xs.headD [] == kExists then kindL l (xs.getD 1 [])
  else if xs.headD [] == kList then listL l (xs.getD 1 [])
  else if xs.headD [] == kRead then readL l (xs.getD 1 [])
  else if xs.headD [] == kGlob then globL l (xs.getD 1 [])
  else if xs.headD [] == kFirst then firstL l (xs.getD 1 []) (xs.drop 2)
  else noT

def askR (r : RSt) (n : Int) (q : Str) : Str × Nat :=
  match findL r.all n with
  | none => ([], 2)
  | some l => if checkL q = 0 then (answerL l (splitL 32 q), 0) else ([], checkL q)

end Go.Proofs.YtdcbgfhkfmohiaaGreatDoor

/- The document's listed. -/
namespace Go.Proofs.YtdcbgfhkfmohiaaGreatDoor
open Go.RowKit

theorem headD_get {xs : List Str} (h : 0 < xs.length) : xs.headD [] = xs[0] := by
  cases xs with
  | nil => simp at h
  | cons x r => rfl
theorem label_one {p : Str} (h : ¬ 1 < (splitL 47 p).length) : labelL p = (splitL 47 p).headD [] := by unfold labelL; rw [if_neg h]
theorem label_more {p : Str} (h : 1 < (splitL 47 p).length) : labelL p = (splitL 47 p).headD [] ++ [47] := by unfold labelL; rw [if_pos h]
theorem step_same {i : Nat} {s t : Str} {f : Fl} (h : (labelL f.1 == t) = true) : listStep i (s, t) f = (s, t) := by unfold listStep; rw [if_pos h]
theorem step_first {s t : Str} {f : Fl} (h : (labelL f.1 == t) = false) : listStep 0 (s, t) f = (s ++ labelL f.1, labelL f.1) := by unfold listStep; rw [if_neg (by simp only at h ⊢; rw [h]; simp)]; simp [sepI]
theorem step_next {i : Nat} {s t : Str} {f : Fl} (hi : i ≠ 0) (h : (labelL f.1 == t) = false) : listStep i (s, t) f = (s ++ [32] ++ labelL f.1, labelL f.1) := by unfold listStep; rw [if_neg (by simp only at h ⊢; rw [h]; simp)]; simp [sepI, hi]

set_option maxHeartbeats 4000000 in
set_option maxRecDepth 50000 in
theorem listed_any (l : List Fl) (v : Value) (w : World) (hl : FilesAt w v l) (hs : Small l) :
    Calls Tryz.prog 167 #[v] w fun e w' => e = .returned (SV (listedL l)) ∧ Below w.heap.size w w' := by
  have hap := app_list
  have hc : (UInt8.toNat 47 : Int) = 47 := rfl
  have hnl := hs.1
  obtain ⟨a1, c1, rfl, hm1, hc1, hv1⟩ := files_view hl
  have HS : Hid _ := hs.2
  have HLN : Hid (∀ k, (listF 0 ([58], []) (l.take k)).1.length ≤ 1 + 1002 * k ∧ (listF 0 ([58], []) (l.take k)).2.length ≤ 1001) := fun k => listF_len (fun f hf => (hs.2 f hf).1) k
  have HE : Hid (listedL l = (listF 0 ([58], []) (l.take l.length)).1) := by rw [Hid, List.take_length]; rfl
  clear hl hs
  go_enter Tryz.func167, Tryz.ntmps167
  go_wp2
  go_loopw [3, 4, 5] (fun s t i wr => ∃ k : Nat, k ≤ l.length ∧ i = .int .i64 k ∧ s = SV (listF 0 ([58], []) (l.take k)).1 ∧ t = SV (listF 0 ([58], []) (l.take k)).2 ∧ Below w.heap.size w wr) (fun _ _ i _ => l.length - (intOf i).toNat)
  case atStart => exact ⟨0, Nat.zero_le _, rfl, rfl, rfl, Below.refl _ _⟩
  case round =>
    obtain ⟨k, hk, rfl, rfl, rfl, hbel⟩ := hrel
    by_cases hlt : k < l.length
    · obtain ⟨g, rfl, hg, hpc, _⟩ := hv1 k hlt
      have hkl := (HS.out l[k] (List.getElem_mem hlt)).1
      have hpk : wr.cell? ⟨g, k * 2, none⟩ = some (SV l[k].1) := (hbel.cell (p := ⟨g, k * 2, none⟩) hg).trans hpc
      have HT : Hid _ := listF_take hlt
      obtain ⟨hln1, hln2⟩ := HLN.out k
      generalize listF 0 ([58], []) (l.take k) = st at *
      obtain ⟨s, t⟩ := st
      simp only at hln1 hln2
      have hi : (k : Int) < (l.length : Int) := by omega
      have hne1 := splitL_ne 47 l[k].1
      have hpc1 := splitL_piece 47 l[k].1
      have L1 := label_one (p := l[k].1)
      have L2 := label_more (p := l[k].1)
      have S1 : Hid ((labelL l[k].1 == t) = true → listF 0 ([58], []) (l.take (k + 1)) = (s, t)) := fun h => by rw [HT.out]; exact step_same h
      have S2 : Hid (k = 0 → (labelL l[k].1 == t) = false → listF 0 ([58], []) (l.take (k + 1)) = (s ++ labelL l[k].1, labelL l[k].1)) := fun h0 h => by rw [HT.out]; subst h0; exact step_first h
      have S3 : Hid (k ≠ 0 → (labelL l[k].1 == t) = false → listF 0 ([58], []) (l.take (k + 1)) = (s ++ [32] ++ labelL l[k].1, labelL l[k].1)) := fun h0 h => by rw [HT.out]; exact step_next h0 h
      clear HT hpc
      go_wp2_with fail
      refine (split_any l[k].1 47 _ (by omega)).mono ?_
      rintro e w1 ⟨v1, rfl, hown1, hb1⟩
      rcases strs_cells hown1 with ⟨rfl, h0, h2⟩ | ⟨g1, cap1, rfl, hn1, hg1, hgb1, hcap1, hmx1, hcell1⟩
      · exact absurd h2 hne1
      have HB : Hid (Below w.heap.size w w1) := hbel.trans (hb1.mono hbel.size)
      clear hown1 hb1 hbel hpk hn1 hgb1
      generalize labelL l[k].1 = lab at *
      generalize splitL 47 l[k].1 = xs at *
      unfold maxLen at hmx1
      have h0l : 0 < xs.length := List.length_pos_iff.2 hne1
      have c0 := hcell1 0 h0l
      rw [headD_get h0l] at L1 L2
      have hx0 := hpc1 _ (List.getElem_mem h0l)
      clear hcell1 hpc1
      by_cases h1 : 1 < xs.length
      · have e1 := L2 h1
        have h1i : (1 : Int) < (xs.length : Int) := by omega
        clear L1 L2
        generalize xs[0] = x0 at *
        subst e1
        cases he : (x0 ++ [47] == t)
        · by_cases hk0 : k = 0
          · have R : Hid _ := S2.out hk0 he
            have hki : ¬ (0 : Int) < (k : Int) := by omega
            clear S1 S2 S3
            go_wp2
            go_roundw
            case rel => exact ⟨k + 1, by omega, by first | go_num | simp [hk0], by rw [R.out] <;> simp, by rw [R.out] <;> simp, HB.out⟩
            case measure => simp [intOf]; omega
          · have R : Hid _ := S3.out hk0 he
            have hki : (0 : Int) < (k : Int) := by omega
            clear S1 S2 S3
            go_wp2
            go_roundw
            case rel => exact ⟨k + 1, by omega, by first | go_num | simp [hk0], by rw [R.out] <;> simp, by rw [R.out] <;> simp, HB.out⟩
            case measure => simp [intOf]; omega
        · have R : Hid _ := S1.out he
          clear S1 S2 S3
          go_wp2
          go_roundw
          case rel => exact ⟨k + 1, by omega, by first | go_num | simp [hk0], by rw [R.out] <;> simp, by rw [R.out] <;> simp, HB.out⟩
          case measure => simp [intOf]; omega
      · have e1 := L1 h1
        have h1i : ¬ (1 : Int) < (xs.length : Int) := by omega
        clear L1 L2
        generalize xs[0] = x0 at *
        subst e1
        cases he : (lab == t)
        · by_cases hk0 : k = 0
          · have R : Hid _ := S2.out hk0 he
            have hki : ¬ (0 : Int) < (k : Int) := by omega
            clear S1 S2 S3
            go_wp2
            go_roundw
            case rel => exact ⟨k + 1, by omega, by first | go_num | simp [hk0], by rw [R.out] <;> simp, by rw [R.out] <;> simp, HB.out⟩
            case measure => simp [intOf]; omega
          · have R : Hid _ := S3.out hk0 he
            have hki : (0 : Int) < (k : Int) := by omega
            clear S1 S2 S3
            go_wp2
            go_roundw
            case rel => exact ⟨k + 1, by omega, by first | go_num | simp [hk0], by rw [R.out] <;> simp, by rw [R.out] <;> simp, HB.out⟩
            case measure => simp [intOf]; omega
        · have R : Hid _ := S1.out he
          clear S1 S2 S3
          go_wp2
          go_roundw
          case rel => exact ⟨k + 1, by omega, by first | go_num | simp [hk0], by rw [R.out] <;> simp, by rw [R.out] <;> simp, HB.out⟩
          case measure => simp [intOf]; omega
    · have hke : k = l.length := by omega
      have HB : Hid (Below w.heap.size w wr) := hbel
      have R : Hid (SV (listF 0 ([58], []) (l.take k)).1 = SV (listedL l)) := by rw [Hid, HE.out, hke]
      have hi : ¬ (k : Int) < (l.length : Int) := by omega
      clear hbel HE HLN hke
      generalize listF 0 ([58], []) (l.take k) = st at *
      go_wp2
      go_ret
      exact ⟨congrArg Ending.returned R.out, HB.out⟩

end Go.Proofs.YtdcbgfhkfmohiaaGreatDoor
