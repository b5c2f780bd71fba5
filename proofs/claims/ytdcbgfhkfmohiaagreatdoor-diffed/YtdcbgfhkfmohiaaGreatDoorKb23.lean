/- isLaid, at bytes; spells. -/
import Derived.Test.YtdcbgfhkfmohiaaGreatDoorKb22
import Derived.Lib.ConvBytes
import Derived.Lib.QuietBelow
import Derived.BigQuiet
namespace Go.Proofs.YtdcbgfhkfmohiaaGreatDoor
open Go.RowKit

set_option maxHeartbeats 1000000 in
theorem spellsByte_any (p c : UInt8) (w : World) :
    Calls Tryz.prog 178 #[.int .u8 p.toNat, .int .u8 c.toNat] w fun e w' => e = .returned (.bool (takesB p c)) ∧ w' = w := by
  have hp : p.toNat < 256 := p.toNat_lt
  have hc : c.toNat < 256 := c.toNat_lt
  have HB : Hid (takesB p c = (decide (p.toNat = 63) || decide (p.toNat = c.toNat))) := by
    unfold takesB
    rw [Hid, Bool.eq_iff_iff]
    simp only [Bool.or_eq_true, beq_iff_eq, decide_eq_true_eq, ← UInt8.toNat_inj]
    rfl
  generalize p.toNat = a at *
  generalize c.toNat = b at *
  go_enter Tryz.func178, Tryz.ntmps178
  go_wp2
  all_goals
    go_ret
    refine ⟨ret_bool ?_, rfl⟩
    rw [HB.out, Bool.eq_iff_iff]
    simp
    omega

/-- The bytes from that place on. -/
def BytesIn (w : World) (g o : Nat) (xs : List UInt8) : Prop := ∀ k (h : k < xs.length), w.cell? ⟨g, o + k, none⟩ = some (.int .u8 (xs[k].toNat : Nat))
theorem BytesIn.drop {w : World} {g o : Nat} {xs : List UInt8} (h : BytesIn w g o xs) (k : Nat) : BytesIn w g (o + k) (xs.drop k) := by
  intro j hj
  have hj' : j + k < xs.length := by simp at hj; omega
  have := h (j + k) hj'
  rw [List.getElem_drop, show o + k + j = o + (j + k) by omega, this]
  congr 4
  simp [Nat.add_comm]
theorem BytesIn.tail {w : World} {g o : Nat} {x : UInt8} {xs : List UInt8} (h : BytesIn w g o (x :: xs)) : BytesIn w g (o + 1) xs := h.drop 1
/-- Behind the first k bytes, where what is left has that room. -/
theorem BytesIn.cut {w : World} {g o : Nat} {xs : List UInt8} (h : BytesIn w g o xs) (k : Nat) (c : Prop) [Decidable c] (hc : c → xs.length ≤ k) : ∃ o', (if c then some (⟨g, o, none⟩ : Addr) else some ⟨g, o + k, none⟩) = some ⟨g, o', none⟩ ∧ BytesIn w g o' (xs.drop k) := by
  by_cases h0 : c
  · exact ⟨o, by rw [if_pos h0], by rw [List.drop_eq_nil_of_le (hc h0)]; exact fun j hj => by simp at hj⟩
  · exact ⟨o + k, by rw [if_neg h0], h.drop k⟩
theorem BytesIn.head {w : World} {g o : Nat} {x : UInt8} {xs : List UInt8} (h : BytesIn w g o (x :: xs)) : w.cell? ⟨g, o, none⟩ = some (.int .u8 (x.toNat : Nat)) := h 0 (by simp)
theorem BytesIn.drewN {w : World} {g o : Nat} {xs : List UInt8} (h : BytesIn w g o xs) (n : Nat) : BytesIn (w.drewN n) g o xs := h


theorem drewN_more (w : World) (n m : Nat) : (w.drewN n).drewN m = w.drewN (n + m) := by simp
theorem laid_nilB (xs : List UInt8) : laidL starB takesB [] xs = decide (xs.length = 0) := by cases xs <;> simp [laidL]
theorem laid_consB {p x : UInt8} {ps xs : List UInt8} (h : starB p = false) : laidL starB takesB (p :: ps) (x :: xs) = (takesB p x && laidL starB takesB ps xs) := by simp [laidL, h]
theorem laid_endB {p : UInt8} {ps : List UInt8} (h : starB p = false) : laidL starB takesB (p :: ps) [] = false := by simp [laidL, h]
theorem laid_hitB {p : UInt8} {ps xs : List UInt8} {k : Nat} (h : starB p = true) (hk : k ≤ xs.length) (hl : laidL starB takesB ps (xs.drop k) = true) : laidL starB takesB (p :: ps) xs = true := by
  simp only [laidL, h, if_true]
  exact List.any_eq_true.2 ⟨k, by simp; omega, hl⟩
theorem laid_missB {p : UInt8} {ps xs : List UInt8} (h : starB p = true) (hl : ∀ k, k ≤ xs.length → laidL starB takesB ps (xs.drop k) = false) : laidL starB takesB (p :: ps) xs = false := by
  simp only [laidL, h, if_true]
  exact List.any_eq_false.2 fun k hk => by simp at hk; rw [hl k (by omega)]; simp

theorem star_int {p : UInt8} : starB p = ((p.toNat : Int) == 42) := by
  unfold starB
  rw [Bool.eq_iff_iff]
  simp only [beq_iff_eq, ← UInt8.toNat_inj]
  constructor
  · intro h; rw [h]; rfl
  · intro h; have : p.toNat = 42 := by omega
    exact this

set_option maxHeartbeats 8000000 in
set_option maxRecDepth 50000 in
theorem isLaidB_any : ∀ (ps xs : List UInt8) (gp op cp gi oi ci : Nat) (w : World), BytesIn w gp op ps → BytesIn w gi oi xs → ps.length ≤ cp → cp ≤ 9223372036854775807 → xs.length ≤ ci → ci ≤ 9223372036854775807 → ps.length ≤ 1000 → xs.length ≤ 1000 →
    Calls Tryz.prog 177 #[.slice (some ⟨gi, oi, none⟩) xs.length ci, .slice (some ⟨gp, op, none⟩) ps.length cp, .int .u8 42, .func (.func 178) #[] #[]] w fun e w' => e = .returned (.bool (laidL starB takesB ps xs)) ∧ ∃ m, w' = w.drewN m := by
  intro ps
  induction ps with
  | nil =>
    intro xs gp op cp gi oi ci w hp hx h1 h2 h3 h4 h5 h6
    have R : Hid _ := laid_nilB xs
    clear hp hx
    cases xs with
    | nil =>
      go_enter Tryz.func177, Tryz.ntmps177
      go_wp2
      go_ret
      exact ⟨by rw [R.out]; rfl, 0, rfl⟩
    | cons x xs =>
      have hne : ¬ ((xs.length : Int) + 1) = 0 := by omega
      go_enter Tryz.func177, Tryz.ntmps177
      go_wp2
      go_ret
      exact ⟨by rw [R.out]; simp; omega, 0, rfl⟩
  | cons p ps ih =>
    intro xs gp op cp gi oi ci w hp hx h1 h2 h3 h4 h5 h6
    obtain ⟨cp', hcp⟩ : ∃ c, cp = c + 1 := ⟨cp - 1, by simp at h1; omega⟩
    subst hcp
    simp only [List.length_cons] at h1 h5 ⊢
    have c0 := hp.head
    have hpi : ((ps.length : Int) + 1) ≤ ((cp' : Int) + 1) := by omega
    cases hs : starB p
    · have hs' : ((p.toNat : Int) == 42) = false := by rw [← star_int]; exact hs
      cases xs with
      | nil =>
        have R : Hid _ := laid_endB (ps := ps) hs
        clear ih hp hx
        go_enter Tryz.func177, Tryz.ntmps177
        go_wp2_with fail
        go_quiet (fail)
        go_wp2
        go_ret
        exact ⟨by rw [R.out]; rfl, _, rfl⟩
      | cons x xs =>
        obtain ⟨ci', hci⟩ : ∃ c, ci = c + 1 := ⟨ci - 1, by simp at h3; omega⟩
        subst hci
        simp only [List.length_cons] at h3 h6 ⊢
        have cx := hx.head
        have hxi : (0 : Int) < ((xs.length : Int) + 1) := by omega
        have hxc : ((xs.length : Int) + 1) ≤ ((ci' : Int) + 1) := by omega
        have hx1 : (1 : Int) ≤ ((xs.length : Int) + 1) := by omega
        have hp1 : (1 : Int) ≤ ((ps.length : Int) + 1) := by omega
        have hx2 : (xs.length : Int) ≤ (ci' : Int) := by omega
        have hp2 : (ps.length : Int) ≤ (cp' : Int) := by omega
        have R : Hid _ := laid_consB (ps := ps) (xs := xs) (x := x) hs
        have CS := fun W => spellsByte_any p x W
        obtain ⟨oi1, ei1, hx1'⟩ := BytesIn.cut hx 1 (ci' = 0) (fun h => by simp only [List.length_cons]; omega)
        obtain ⟨op1, ep1, hp1'⟩ := BytesIn.cut hp 1 (cp' = 0) (fun h => by simp only [List.length_cons]; omega)
        have CI : Hid (∀ n, Calls Tryz.prog 177 #[.slice (some ⟨gi, oi1, none⟩) xs.length ci', .slice (some ⟨gp, op1, none⟩) ps.length cp', .int .u8 42, .func (.func 178) #[] #[]] (w.drewN n) fun e w' => e = .returned (.bool (laidL starB takesB ps xs)) ∧ ∃ m, w' = (w.drewN n).drewN m) := fun n => ih xs gp op1 cp' gi oi1 ci' (w.drewN n) (hp1'.drewN n) (hx1'.drewN n) (by omega) (by omega) (by omega) (by omega) (by omega) (by omega)
        clear ih hp hx hx1' hp1'
        cases ht : takesB p x
        · rw [ht] at CS R
          go_enter Tryz.func177, Tryz.ntmps177
          go_wp2_with fail
          go_quiet (first | (go_at_call 178; exact Calls.quiet_of_same (CS _)))
          go_wp2
          go_ret
          exact ⟨by rw [R.out]; rfl, _, rfl⟩
        · rw [ht] at CS R
          have hE : ∀ args W, (callFunc 177 args).run Tryz.prog W = .ok (.enter 177 args) W := enters_of Tryz.func177 (by kernel_rfl) rfl
          generalize laidL starB takesB ps xs = b at *
          go_enter Tryz.func177, Tryz.ntmps177
          go_wp2_with fail
          go_quiet (first | (go_at_call 178; exact Calls.quiet_of_same (CS _)) | (go_at_call 177; exact Calls.quiet_of (CI.out _)))
          go_wp2
          go_ret
          exact ⟨by rw [R.out]; simp, _, rfl⟩
    · have hs' : ((p.toNat : Int) == 42) = true := by rw [← star_int]; exact hs
      have HIT : Hid (∀ k, k ≤ xs.length → laidL starB takesB ps (xs.drop k) = true → laidL starB takesB (p :: ps) xs = true) := fun k hk h => laid_hitB hs hk h
      have MISS : Hid ((∀ k, k ≤ xs.length → laidL starB takesB ps (xs.drop k) = false) → laidL starB takesB (p :: ps) xs = false) := fun h => laid_missB hs h
      obtain ⟨op1, ep1, hp1'⟩ := BytesIn.cut hp 1 (cp' = 0) (fun h => by simp only [List.length_cons]; omega)
      have hp1 : (1 : Int) ≤ ((ps.length : Int) + 1) := by omega
      have hp2 : (ps.length : Int) ≤ (cp' : Int) := by omega
      have CUT : Hid (∀ k, k ≤ xs.length → ∃ o', (if ci = k then some (⟨gi, oi, none⟩ : Addr) else some ⟨gi, oi + k, none⟩) = some ⟨gi, o', none⟩ ∧ BytesIn w gi o' (xs.drop k)) := fun k hk => BytesIn.cut hx k (ci = k) (fun h => by omega)
      have CI : Hid (∀ k (W : World) o', (∃ n, W = w.drewN n) → k ≤ xs.length → BytesIn w gi o' (xs.drop k) → Calls Tryz.prog 177 #[.slice (some ⟨gi, o', none⟩) (xs.length - k) (ci - k), .slice (some ⟨gp, op1, none⟩) ps.length cp', .int .u8 42, .func (.func 178) #[] #[]] W fun e w' => e = .returned (.bool (laidL starB takesB ps (xs.drop k))) ∧ ∃ m, w' = W.drewN m) := fun k W o' hW hk hB => by
        obtain ⟨n, rfl⟩ := hW
        have := ih (xs.drop k) gp op1 cp' gi o' (ci - k) (w.drewN n) (hp1'.drewN n) (hB.drewN n) (by omega) (by omega) (by simp; omega) (by omega) (by omega) (by simp; omega)
        rw [List.length_drop] at this
        exact this
      clear ih hp hx hp1'
      go_enter Tryz.func177, Tryz.ntmps177
      go_wp2
      go_loopw [46] (fun i wr => ∃ k n : Nat, k ≤ xs.length + 1 ∧ i = .int .i64 k ∧ wr = w.drewN n ∧ ∀ j, j < k → j ≤ xs.length → laidL starB takesB ps (xs.drop j) = false) (fun i _ => xs.length + 1 - (intOf i).toNat)
      case atStart => exact ⟨0, 0, Nat.zero_le _, rfl, rfl, fun j h => by omega⟩
      case round =>
        obtain ⟨k, n, hk, rfl, hwr, hall⟩ := hrel
        have HWR : Hid _ := hwr
        clear c0 hwr
        by_cases hlt : k ≤ xs.length
        · have hki : (k : Int) < ((xs.length : Int) + 1) := by omega
          have hki2 : (k : Int) ≤ (xs.length : Int) := by omega
          have hkc : (xs.length : Int) ≤ (ci : Int) := by omega
          obtain ⟨oi2, ei2, hx2⟩ := CUT.out k hlt
          have CK : Hid _ := fun m => CI.out k (wr.drewN m) oi2 ⟨n + m, by rw [HWR.out]; exact drewN_more w n m⟩ hlt hx2
          clear hx2
          have HA : Hid _ := hall
          have HH : Hid _ := HIT.out k hlt
          clear hall HIT CI
          cases hb : laidL starB takesB ps (xs.drop k)
          · rw [hb] at CK
            go_wp2_with fail
            go_quiet (first | (go_at_call 177; exact Calls.quiet_of (CK.out _)))
            go_wp2
            go_roundw
            case rel => exact ⟨k + 1, n + nq, by omega, by go_num, by rw [HWR.out]; exact drewN_more w n nq, fun j hj hjl => by
              by_cases e : j = k
              · subst e; exact hb
              · exact HA.out j (by omega) hjl⟩
            case measure => simp [intOf]; omega
          · have R : Hid _ := HH.out hb
            rw [hb] at CK
            go_wp2_with fail
            go_quiet (first | (go_at_call 177; exact Calls.quiet_of (CK.out _)))
            go_wp2
            go_ret
            exact ⟨by rw [R.out]; rfl, n + nq, by rw [HWR.out]; exact drewN_more w n nq⟩
        · have R : Hid _ := MISS.out (fun j hj => hall j (by omega) hj)
          have hki : ¬ (k : Int) < ((xs.length : Int) + 1) := by omega
          clear hall HIT MISS CI
          go_wp2
          go_ret
          exact ⟨by rw [R.out]; rfl, n, HWR.out⟩

end Go.Proofs.YtdcbgfhkfmohiaaGreatDoor

/- spells. -/
namespace Go.Proofs.YtdcbgfhkfmohiaaGreatDoor
open Go.RowKit

theorem bytes_below (w : World) (e : TypeId) (s : ByteArray) : Below w.heap.size w (Lib.bytesWorld w e s) := by
  refine ⟨?_, ?_, ?_, ?_, fun k hk => Lib.bytesWorld_at_old w e s k hk⟩
  · simp [Lib.bytesWorld, World.freeze, World.alloc, World.drew, -World.alloc_eq, -World.drew_eq]
  · simp [Lib.bytesWorld, World.freeze, World.alloc, World.drew, -World.alloc_eq, -World.drew_eq]
  · simp [Lib.bytesWorld, World.freeze, World.alloc, World.drew, -World.alloc_eq, -World.drew_eq]
  · rw [Lib.bytesWorld_size]; omega
theorem bytes_in (w : World) (e : TypeId) (s : Str) : BytesIn (Lib.bytesWorld w e ⟨s.toArray⟩) w.heap.size 0 s := by
  intro k hk
  rw [Nat.zero_add, Lib.bytesWorld_cell w e ⟨s.toArray⟩ k (by simpa [ByteArray.size] using hk)]
  simp [List.getD, hk]
theorem BytesIn.below {w w' : World} {g o : Nat} {xs : List UInt8} (h : BytesIn w g o xs) (hg : g < w.heap.size) (hb : Below w.heap.size w w') : BytesIn w' g o xs :=
  fun k hk => (hb.cell (p := ⟨g, o + k, none⟩) hg).trans (h k hk)

set_option maxHeartbeats 2000000 in
set_option maxRecDepth 50000 in
theorem spells_any (part name : Str) (w : World) (hp : part.length ≤ 1000) (hn : name.length ≤ 1000) :
    Calls Tryz.prog 150 #[SV part, SV name] w fun e w' => e = .returned (.bool (spelledL part name)) ∧ Below w.heap.size w w' := by
  have h1 := Lib.run_convert_string_bytes (P := Tryz.prog) w 9 92 5 ⟨name.toArray⟩ (u := .string) Tryz.underlying9 Tryz.underlying92 Tryz.underlying5
  have b1 := bytes_below w 5 ⟨name.toArray⟩
  have i1 := bytes_in w 5 name
  have z1 := Lib.bytesWorld_size w 5 ⟨name.toArray⟩
  have g1 := grownCap_ge w name.length 0 5
  have m1 := grownCap_le_maxLen w name.length 0 5 (by unfold maxLen; omega)
  rw [show (ByteArray.mk name.toArray).size = name.length by simp [ByteArray.size]] at h1
  generalize grownCap w name.length 0 5 = k1 at *
  generalize Lib.bytesWorld w 5 ⟨name.toArray⟩ = w1 at *
  have h2 := Lib.run_convert_string_bytes (P := Tryz.prog) w1 9 92 5 ⟨part.toArray⟩ (u := .string) Tryz.underlying9 Tryz.underlying92 Tryz.underlying5
  have b2 := bytes_below w1 5 ⟨part.toArray⟩
  have i2 := bytes_in w1 5 part
  have g2 := grownCap_ge w1 part.length 0 5
  have m2 := grownCap_le_maxLen w1 part.length 0 5 (by unfold maxLen; omega)
  rw [show (ByteArray.mk part.toArray).size = part.length by simp [ByteArray.size]] at h2
  generalize grownCap w1 part.length 0 5 = k2 at *
  generalize Lib.bytesWorld w1 5 ⟨part.toArray⟩ = w2 at *
  unfold maxLen at m1 m2
  have C := isLaidB_any part name w1.heap.size 0 k2 w.heap.size 0 k1 w2 i2 (i1.below (by omega) b2) g2 m2 g1 m1 hp hn
  rw [z1] at C
  have HB : Hid (Below w.heap.size w w2) := b1.trans (b2.mono b1.size)
  have HS : Hid (spelledL part name = laidL starB takesB part name) := rfl
  generalize laidL starB takesB part name = b at *
  clear i1 i2 b1 b2 g1 g2
  go_enter Tryz.func150, Tryz.ntmps150
  go_wp2_with (go_at_call 177; refine C.mono ?_; rintro e w3 ⟨rfl, n, rfl⟩)
  go_ret
  exact ⟨by rw [HS.out]; rfl, below_drewN HB.out _⟩

end Go.Proofs.YtdcbgfhkfmohiaaGreatDoor

/- isLaid, at texts; fits. -/
namespace Go.Proofs.YtdcbgfhkfmohiaaGreatDoor
open Go.RowKit Go.Sort

/-- The names from that place on. -/
def NamesIn (w : World) (g o : Nat) (xs : List Str) : Prop := g < w.heap.size ∧ ∀ k (h : k < xs.length), w.cell? ⟨g, o + k, none⟩ = some (SV xs[k])
theorem NamesIn.drop {w : World} {g o : Nat} {xs : List Str} (h : NamesIn w g o xs) (k : Nat) : NamesIn w g (o + k) (xs.drop k) := by
  refine ⟨h.1, ?_⟩
  intro j hj
  have hj' : j + k < xs.length := by simp at hj; omega
  have := h.2 (j + k) hj'
  rw [List.getElem_drop, show o + k + j = o + (j + k) by omega, this]
  congr 2
  simp [Nat.add_comm]
theorem NamesIn.head {w : World} {g o : Nat} {x : Str} {xs : List Str} (h : NamesIn w g o (x :: xs)) : w.cell? ⟨g, o, none⟩ = some (SV x) := h.2 0 (by simp)
theorem NamesIn.below {w w' : World} {g o : Nat} {xs : List Str} (h : NamesIn w g o xs) (hb : Below w.heap.size w w') : NamesIn w' g o xs :=
  ⟨Nat.lt_of_lt_of_le h.1 hb.size, fun k hk => (hb.cell (p := ⟨g, o + k, none⟩) h.1).trans (h.2 k hk)⟩
theorem NamesIn.cut {w : World} {g o : Nat} {xs : List Str} (h : NamesIn w g o xs) (k : Nat) (c : Prop) [Decidable c] (hc : c → xs.length ≤ k) : ∃ o', (if c then some (⟨g, o, none⟩ : Addr) else some ⟨g, o + k, none⟩) = some ⟨g, o', none⟩ ∧ NamesIn w g o' (xs.drop k) := by
  by_cases h0 : c
  · exact ⟨o, by rw [if_pos h0], by rw [List.drop_eq_nil_of_le (hc h0)]; exact ⟨h.1, fun j hj => by simp at hj⟩⟩
  · exact ⟨o + k, by rw [if_neg h0], h.drop k⟩

theorem laid_nilS (xs : List Str) : laidL runS spelledL [] xs = decide (xs.length = 0) := by cases xs <;> simp [laidL]
theorem laid_consS {p x : Str} {ps xs : List Str} (h : runS p = false) : laidL runS spelledL (p :: ps) (x :: xs) = (spelledL p x && laidL runS spelledL ps xs) := by simp [laidL, h]
theorem laid_endS {p : Str} {ps : List Str} (h : runS p = false) : laidL runS spelledL (p :: ps) [] = false := by simp [laidL, h]
theorem laid_hitS {p : Str} {ps xs : List Str} {k : Nat} (h : runS p = true) (hk : k ≤ xs.length) (hl : laidL runS spelledL ps (xs.drop k) = true) : laidL runS spelledL (p :: ps) xs = true := by
  simp only [laidL, h, if_true]
  exact List.any_eq_true.2 ⟨k, by simp; omega, hl⟩
theorem laid_missS {p : Str} {ps xs : List Str} (h : runS p = true) (hl : ∀ k, k ≤ xs.length → laidL runS spelledL ps (xs.drop k) = false) : laidL runS spelledL (p :: ps) xs = false := by
  simp only [laidL, h, if_true]
  exact List.any_eq_false.2 fun k hk => by simp at hk; rw [hl k (by omega)]; simp

/-- What isLaid answers, in every later world. -/
def LaidSIn (w : World) (xs ps : List Str) (gi oi ci gp op cp : Nat) : Prop := ∀ W, Below w.heap.size w W → Calls Tryz.prog 149 #[.slice (some ⟨gi, oi, none⟩) xs.length ci, .slice (some ⟨gp, op, none⟩) ps.length cp, SV [42, 42], .func (.func 150) #[] #[]] W fun e w' => e = .returned (.bool (laidL runS spelledL ps xs)) ∧ Below W.heap.size W w'

set_option maxHeartbeats 8000000 in
set_option maxRecDepth 50000 in
theorem laidS_end (p : Str) (ps : List Str) (gp op cp gi oi ci : Nat) (w : World) (c0 : w.cell? ⟨gp, op, none⟩ = some (SV p)) (_hpi : ((ps.length : Int) + 1) ≤ ((cp : Int) + 1)) (h5 : ps.length ≤ 1000) (hs : runS p = false) :
    Calls Tryz.prog 149 #[.slice (some ⟨gi, oi, none⟩) 0 ci, .slice (some ⟨gp, op, none⟩) (ps.length + 1) (cp + 1), SV [42, 42], .func (.func 150) #[] #[]] w fun e w' => e = .returned (.bool (laidL runS spelledL (p :: ps) [])) ∧ Below w.heap.size w w' := by
  have hs' : (p == [42, 42]) = false := hs
  have R : Hid _ := laid_endS (ps := ps) hs
  go_enter Tryz.func149, Tryz.ntmps149
  go_wp2_with fail
  go_quiet (fail)
  go_wp2
  go_ret
  exact ⟨by rw [R.out]; rfl, below_drewN (Below.refl _ _) _⟩

set_option maxHeartbeats 8000000 in
set_option maxRecDepth 50000 in
theorem laidS_one (p x : Str) (ps xs : List Str) (gp op cp' op1 gi oi ci' oi1 : Nat) (w : World) (c0 : w.cell? ⟨gp, op, none⟩ = some (SV p)) (cx : w.cell? ⟨gi, oi, none⟩ = some (SV x))
    (h1 : ps.length ≤ cp') (h3 : xs.length ≤ ci') (_h4 : ci' + 1 ≤ 9223372036854775807) (_h2 : cp' + 1 ≤ 9223372036854775807) (h5 : ps.length ≤ 1000) (h6 : xs.length ≤ 1000) (h7p : p.length ≤ 1000) (h8x : x.length ≤ 1000)
    (ep1 : (if cp' = 0 then some (⟨gp, op, none⟩ : Addr) else some ⟨gp, op + 1, none⟩) = some ⟨gp, op1, none⟩) (ei1 : (if ci' = 0 then some (⟨gi, oi, none⟩ : Addr) else some ⟨gi, oi + 1, none⟩) = some ⟨gi, oi1, none⟩)
    (hs : runS p = false) (hI : LaidSIn w xs ps gi oi1 ci' gp op1 cp') :
    Calls Tryz.prog 149 #[.slice (some ⟨gi, oi, none⟩) (xs.length + 1) (ci' + 1), .slice (some ⟨gp, op, none⟩) (ps.length + 1) (cp' + 1), SV [42, 42], .func (.func 150) #[] #[]] w fun e w' => e = .returned (.bool (laidL runS spelledL (p :: ps) (x :: xs))) ∧ Below w.heap.size w w' := by
  have hE : ∀ args W, (callFunc 150 args).run Tryz.prog W = .ok (.enter 150 args) W := enters_of Tryz.func150 (by kernel_rfl) rfl
  have hs' : (p == [42, 42]) = false := hs
  have hpi : ((ps.length : Int) + 1) ≤ ((cp' : Int) + 1) := by omega
  have hp1 : (1 : Int) ≤ ((ps.length : Int) + 1) := by omega
  have hp2 : (ps.length : Int) ≤ (cp' : Int) := by omega
  have hxi : (0 : Int) < ((xs.length : Int) + 1) := by omega
  have hxc : ((xs.length : Int) + 1) ≤ ((ci' : Int) + 1) := by omega
  have hx1 : (1 : Int) ≤ ((xs.length : Int) + 1) := by omega
  have hx2 : (xs.length : Int) ≤ (ci' : Int) := by omega
  have R : Hid _ := laid_consS (ps := ps) (xs := xs) (x := x) hs
  have c0r := fun d os => cell_regrown c0 d os
  have cxr := fun d os => cell_regrown cx d os
  have CS : Hid (∀ d os, Calls Tryz.prog 150 #[SV p, SV x] (grow (redrawn w d) os) fun e w'' => e = .returned (.bool (spelledL p x)) ∧ ∃ q : Regrown, w'' = grow (redrawn w q.d) q.os) := fun d os => Calls.regrown_of (spells_any p x _ h7p h8x)
  have CI : Hid (∀ d os, Calls Tryz.prog 149 #[.slice (some ⟨gi, oi1, none⟩) xs.length ci', .slice (some ⟨gp, op1, none⟩) ps.length cp', SV [42, 42], .func (.func 150) #[] #[]] (grow (redrawn w d) os) fun e w'' => e = .returned (.bool (laidL runS spelledL ps xs)) ∧ ∃ q : Regrown, w'' = grow (redrawn w q.d) q.os) := fun d os =>
    Calls.regrown_of (hI _ (below_regrown w d os))
  clear hI
  cases ht : spelledL p x
  · rw [ht] at CS R
    clear CI
    go_enter Tryz.func149, Tryz.ntmps149
    go_wp2_with fail
    refine wp_region_quiet_below (by kernel_rfl) (by kernel_rfl) ?_
    repeat (quiet_step (first | (go_at_call 150; exact CS.out _ _)))
    refine wpQuiet_nil ?_
    rintro w' ⟨q, rfl⟩
    go_wp2
    go_ret
    exact ⟨by rw [R.out]; rfl, below_regrown _ _ _⟩
  · rw [ht] at CS R
    have hE2 : ∀ args W, (callFunc 149 args).run Tryz.prog W = .ok (.enter 149 args) W := enters_of Tryz.func149 (by kernel_rfl) rfl
    generalize laidL runS spelledL ps xs = b at *
    go_enter Tryz.func149, Tryz.ntmps149
    go_wp2_with fail
    refine wp_region_quiet_below (by kernel_rfl) (by kernel_rfl) ?_
    repeat (quiet_step (first | (go_at_call 150; exact CS.out _ _) | (go_at_call 149; exact CI.out _ _)))
    refine wpQuiet_nil ?_
    rintro w' ⟨q, rfl⟩
    go_wp2
    go_ret
    exact ⟨by rw [R.out]; simp, below_regrown _ _ _⟩

end Go.Proofs.YtdcbgfhkfmohiaaGreatDoor

/- isLaid at texts: a part that runs. -/
namespace Go.Proofs.YtdcbgfhkfmohiaaGreatDoor
open Go.RowKit Go.Sort

set_option maxHeartbeats 8000000 in
set_option maxRecDepth 50000 in
theorem laidS_run (p : Str) (ps xs : List Str) (gp op cp' op1 gi oi ci : Nat) (w : World) (c0 : w.cell? ⟨gp, op, none⟩ = some (SV p)) (hx : NamesIn w gi oi xs)
    (h1 : ps.length ≤ cp') (h3 : xs.length ≤ ci) (_h4 : ci ≤ 9223372036854775807) (_h2 : cp' + 1 ≤ 9223372036854775807) (h5 : ps.length ≤ 1000) (h6 : xs.length ≤ 1000)
    (ep1 : (if cp' = 0 then some (⟨gp, op, none⟩ : Addr) else some ⟨gp, op + 1, none⟩) = some ⟨gp, op1, none⟩)
    (hs : runS p = true) (hI : ∀ k o', k ≤ xs.length → NamesIn w gi o' (xs.drop k) → LaidSIn w (xs.drop k) ps gi o' (ci - k) gp op1 cp') :
    Calls Tryz.prog 149 #[.slice (some ⟨gi, oi, none⟩) xs.length ci, .slice (some ⟨gp, op, none⟩) (ps.length + 1) (cp' + 1), SV [42, 42], .func (.func 150) #[] #[]] w fun e w' => e = .returned (.bool (laidL runS spelledL (p :: ps) xs)) ∧ Below w.heap.size w w' := by
  have hs' : (p == [42, 42]) = true := hs
  have hpi : ((ps.length : Int) + 1) ≤ ((cp' : Int) + 1) := by omega
  have hne0 : ((ps.length : Int) + 1 == 0) = false := by rw [beq_eq_false_iff_ne]; omega
  have hp1 : (1 : Int) ≤ ((ps.length : Int) + 1) := by omega
  have hp2 : (ps.length : Int) ≤ (cp' : Int) := by omega
  have HIT : Hid (∀ k, k ≤ xs.length → laidL runS spelledL ps (xs.drop k) = true → laidL runS spelledL (p :: ps) xs = true) := fun k hk h => laid_hitS hs hk h
  have MISS : Hid ((∀ k, k ≤ xs.length → laidL runS spelledL ps (xs.drop k) = false) → laidL runS spelledL (p :: ps) xs = false) := fun h => laid_missS hs h
  have CUT : Hid (∀ k, k ≤ xs.length → ∃ o', (if ci = k then some (⟨gi, oi, none⟩ : Addr) else some ⟨gi, oi + k, none⟩) = some ⟨gi, o', none⟩ ∧ NamesIn w gi o' (xs.drop k)) := fun k hk => NamesIn.cut hx k (ci = k) (fun h => by omega)
  have CI : Hid (∀ k (W : World) o', Below w.heap.size w W → k ≤ xs.length → NamesIn w gi o' (xs.drop k) → Calls Tryz.prog 149 #[.slice (some ⟨gi, o', none⟩) (xs.length - k) (ci - k), .slice (some ⟨gp, op1, none⟩) ps.length cp', SV [42, 42], .func (.func 150) #[] #[]] W fun e w' => e = .returned (.bool (laidL runS spelledL ps (xs.drop k))) ∧ Below W.heap.size W w') := fun k W o' hW hk hB => by
    have := hI k o' hk hB W hW
    rw [List.length_drop] at this
    exact this
  have hE2 : ∀ args W, (callFunc 149 args).run Tryz.prog W = .ok (.enter 149 args) W := enters_of Tryz.func149 (by kernel_rfl) rfl
  clear hx hI
  go_enter Tryz.func149, Tryz.ntmps149
  go_wp2
  go_loopw [46] (fun i wr => ∃ k : Nat, k ≤ xs.length + 1 ∧ i = .int .i64 k ∧ Below w.heap.size w wr ∧ ∀ j, j < k → j ≤ xs.length → laidL runS spelledL ps (xs.drop j) = false) (fun i _ => xs.length + 1 - (intOf i).toNat)
  case atStart => exact ⟨0, Nat.zero_le _, rfl, Below.refl _ _, fun j h => by omega⟩
  case round =>
    obtain ⟨k, hk, rfl, hb, hall⟩ := hrel
    have HB : Hid _ := hb
    clear c0 hb
    by_cases hlt : k ≤ xs.length
    · have hki : (k : Int) < ((xs.length : Int) + 1) := by omega
      have hki2 : (k : Int) ≤ (xs.length : Int) := by omega
      have hkc : (xs.length : Int) ≤ (ci : Int) := by omega
      obtain ⟨oi2, ei2, hx2⟩ := CUT.out k hlt
      have CK : Hid (∀ d os, Calls Tryz.prog 149 #[.slice (some ⟨gi, oi2, none⟩) (xs.length - k) (ci - k), .slice (some ⟨gp, op1, none⟩) ps.length cp', SV [42, 42], .func (.func 150) #[] #[]] (grow (redrawn wr d) os) fun e w'' => e = .returned (.bool (laidL runS spelledL ps (xs.drop k))) ∧ ∃ q : Regrown, w'' = grow (redrawn wr q.d) q.os) := fun d os =>
        Calls.regrown_of (CI.out k _ oi2 (HB.out.trans ((below_regrown wr d os).mono HB.out.size)) hlt hx2)
      have HA : Hid _ := hall
      have HH : Hid _ := HIT.out k hlt
      clear hall HIT CI hx2
      cases hb : laidL runS spelledL ps (xs.drop k)
      · rw [hb] at CK
        go_wp2_with fail
        refine wp_region_quiet_below (by kernel_rfl) (by kernel_rfl) ?_
        repeat (quiet_step (first | (go_at_call 149; exact CK.out _ _)))
        refine wpQuiet_nil ?_
        intro w' hw'
        have hb' : Below wr.heap.size wr w' := by
          obtain ⟨q, rfl⟩ := hw'
          exact below_regrown _ _ _
        have HB' : Hid _ := hb'
        clear hw' hb'
        go_wp2
        go_roundw
        case rel => exact ⟨k + 1, by omega, by go_num, HB.out.trans (HB'.out.mono HB.out.size), fun j hj hjl => by
          by_cases e : j = k
          · subst e; exact hb
          · exact HA.out j (by omega) hjl⟩
        case measure => simp [intOf]; omega
      · have R : Hid _ := HH.out hb
        rw [hb] at CK
        go_wp2_with fail
        refine wp_region_quiet_below (by kernel_rfl) (by kernel_rfl) ?_
        repeat (quiet_step (first | (go_at_call 149; exact CK.out _ _)))
        refine wpQuiet_nil ?_
        intro w' hw'
        have hb' : Below wr.heap.size wr w' := by
          obtain ⟨q, rfl⟩ := hw'
          exact below_regrown _ _ _
        have HB' : Hid _ := hb'
        clear hw' hb'
        go_wp2
        go_ret
        exact ⟨by rw [R.out]; rfl, HB.out.trans (HB'.out.mono HB.out.size)⟩
    · have R : Hid _ := MISS.out (fun j hj => hall j (by omega) hj)
      have hki : ¬ (k : Int) < ((xs.length : Int) + 1) := by omega
      clear hall HIT MISS CI
      go_wp2
      go_ret
      exact ⟨by rw [R.out]; rfl, HB.out⟩

end Go.Proofs.YtdcbgfhkfmohiaaGreatDoor

/- isLaid at texts; fits. -/
namespace Go.Proofs.YtdcbgfhkfmohiaaGreatDoor
open Go.RowKit Go.Sort

set_option maxHeartbeats 1000000 in
theorem isLaidS_any : ∀ (ps xs : List Str) (gp op cp gi oi ci : Nat) (w : World), NamesIn w gp op ps → NamesIn w gi oi xs → ps.length ≤ cp → cp ≤ 9223372036854775807 → xs.length ≤ ci → ci ≤ 9223372036854775807 → ps.length ≤ 1000 → xs.length ≤ 1000 → (∀ x ∈ ps, x.length ≤ 1000) → (∀ x ∈ xs, x.length ≤ 1000) →
    Calls Tryz.prog 149 #[.slice (some ⟨gi, oi, none⟩) xs.length ci, .slice (some ⟨gp, op, none⟩) ps.length cp, SV [42, 42], .func (.func 150) #[] #[]] w fun e w' => e = .returned (.bool (laidL runS spelledL ps xs)) ∧ Below w.heap.size w w' := by
  intro ps
  induction ps with
  | nil =>
    intro xs gp op cp gi oi ci w hp hx h1 h2 h3 h4 h5 h6 h7 h8
    have R : Hid _ := laid_nilS xs
    clear hp hx
    cases xs with
    | nil =>
      go_enter Tryz.func149, Tryz.ntmps149
      go_wp2
      go_ret
      exact ⟨by rw [R.out]; rfl, Below.refl _ _⟩
    | cons x xs =>
      have hne : ¬ ((xs.length : Int) + 1) = 0 := by omega
      go_enter Tryz.func149, Tryz.ntmps149
      go_wp2
      go_ret
      exact ⟨by rw [R.out]; simp; omega, Below.refl _ _⟩
  | cons p ps ih =>
    intro xs gp op cp gi oi ci w hp hx h1 h2 h3 h4 h5 h6 h7 h8
    obtain ⟨cp', hcp⟩ : ∃ c, cp = c + 1 := ⟨cp - 1, by simp at h1; omega⟩
    subst hcp
    simp only [List.length_cons] at h1 h5 ⊢
    obtain ⟨op1, ep1, hp1'⟩ := NamesIn.cut hp 1 (cp' = 0) (fun h => by simp only [List.length_cons]; omega)
    have h7' : ∀ x ∈ ps, x.length ≤ 1000 := fun x hx => h7 x (by simp [hx])
    cases hs : runS p
    · cases xs with
      | nil => exact laidS_end p ps gp op cp' gi oi ci w hp.head (by omega) (by omega) hs
      | cons x xs =>
        obtain ⟨ci', hci⟩ : ∃ c, ci = c + 1 := ⟨ci - 1, by simp at h3; omega⟩
        subst hci
        simp only [List.length_cons] at h3 h6 ⊢
        obtain ⟨oi1, ei1, hx1'⟩ := NamesIn.cut hx 1 (ci' = 0) (fun h => by simp only [List.length_cons]; omega)
        exact laidS_one p x ps xs gp op cp' op1 gi oi ci' oi1 w hp.head hx.head (by omega) (by omega) h4 h2 (by omega) (by omega) (h7 p (by simp)) (h8 x (by simp)) ep1 ei1 hs (fun W hW =>
          ih xs gp op1 cp' gi oi1 ci' W (hp1'.below hW) (hx1'.below hW) (by omega) (by omega) (by omega) (by omega) (by omega) (by omega) h7' (fun y hy => h8 y (by simp [hy])))
    · exact laidS_run p ps xs gp op cp' op1 gi oi ci w hp.head hx (by omega) h3 h4 h2 (by omega) h6 ep1 hs (fun k o' hk hN W hW =>
        ih (xs.drop k) gp op1 cp' gi o' (ci - k) W (hp1'.below hW) (hN.below hW) (by omega) (by omega) (by simp; omega) (by omega) (by omega) (by simp; omega) h7' (fun y hy => h8 y (List.mem_of_mem_drop hy)))

set_option maxHeartbeats 2000000 in
set_option maxRecDepth 50000 in
theorem prgFits_any (path : Str) (ps : List Str) (g n c : Nat) (w : World) (hn : NamesAt w (.slice (some ⟨g, 0, none⟩) n c) ps) (hg : g < w.heap.size) (h1 : ps.length ≤ 1000) (h2 : ∀ x ∈ ps, x.length ≤ 1000) (h3 : path.length ≤ 900) :
    Calls Tryz.prog 118 #[SV path, .slice (some ⟨g, 0, none⟩) n c] w fun e w' => e = .returned (.bool (laidL runS spelledL ps (splitL 47 path))) ∧ Below w.heap.size w w' := by
  have hl := splitL_len 47 path
  have hpc := splitL_piece 47 path
  have hne := splitL_ne 47 path
  obtain ⟨ao, cap, e0, hc, hm, hcell⟩ := hn
  simp only [Value.slice.injEq] at e0
  obtain ⟨rfl, rfl, rfl⟩ := e0
  have hP : NamesIn w g 0 ps := ⟨hg, fun k hk => by
    obtain ⟨g', o', e, _, h7⟩ := hcell k hk
    simp only [Option.some.injEq, Addr.mk.injEq] at e
    obtain ⟨rfl, rfl, _⟩ := e
    exact h7⟩
  clear hcell
  go_enter Tryz.func118, Tryz.ntmps118
  go_wp2_with fail
  refine (prgSplit_any path 47 w (by omega)).mono ?_
  rintro e w1 ⟨v1, rfl, hown1, hb1⟩
  rcases strs_cells hown1 with ⟨rfl, h0, h4⟩ | ⟨g1, cap1, rfl, hn1, hg1, hgb1, hcap1, hm1, hcell1⟩
  · exact absurd h4 hne
  have C := isLaidS_any ps (splitL 47 path) g 0 c g1 0 cap1 w1 (hP.below hb1) ⟨hg1, fun k hk => by rw [Nat.zero_add]; exact hcell1 k hk⟩ hc (by unfold maxLen at hm; omega) hcap1 (by unfold maxLen at hm1; omega) h1 (by omega) h2 (fun x hx => by have := hpc x hx; omega)
  have HB1 : Hid _ := hb1
  clear hown1 hcell1 hP hb1 hpc
  generalize hbb : laidL runS spelledL ps (splitL 47 path) = b at *
  have HBB : Hid _ := hbb
  clear hbb
  go_wp2_with (go_at_call 149; refine C.mono ?_; rintro e w2 ⟨rfl, hb2⟩)
  go_ret
  exact ⟨by rw [HBB.out]; rfl, HB1.out.trans (hb2.mono HB1.out.size)⟩

end Go.Proofs.YtdcbgfhkfmohiaaGreatDoor

/- What a snapshot answers: kindAt, dataAt. -/
namespace Go.Proofs.YtdcbgfhkfmohiaaGreatDoor
open Go.RowKit

def TextRet (w : World) (s : Str) (e : Ending) (w' : World) : Prop := e = .returned (SV s) ∧ Below w.heap.size w w'

theorem kindT_place (es : Ents) (q : List Str) : kindT es q = if placeN (look (some (.dir es)) q) = 2 then fileT else if placeN (look (some (.dir es)) q) = 3 then dirT else noT := by
  unfold kindT
  cases look (some (.dir es)) q <;> rfl

set_option maxHeartbeats 2000000 in
set_option maxRecDepth 50000 in
theorem kindAt_any (Q : Nat → Int → Prop) (es : Ents) (q : List Str) (b : Nat) (nv : Value) (w : World) (hr : RepO w Q (dirV b) (some (.dir es))) (hw : WFE es) (hn : NamesAt w nv q) :
    Calls Tryz.prog 80 #[ptrV b, nv] w fun e w' => TextRet w (kindT es q) e w' := by
  have C := look_any Q q (some (.dir es)) (dirV b) nv w hr hw hn
  have HK : Hid _ := kindT_place es q
  obtain ⟨ao, cap, rfl, _⟩ := names_form hn
  clear hr hn
  go_enter Tryz.func80, Tryz.ntmps80
  go_wp2_with fail
  refine C.mono ?_
  rintro e w1 ⟨⟨v, rfl, hv⟩, hb⟩
  have hform : v = .nilIface ∨ ∃ k n, v = .iface k (.pointer (some ⟨n, 0, none⟩)) := by
    cases hs : (some (Tree.dir es)).bind fun t => sub t q with
    | none => rw [hs] at hv; exact .inl hv
    | some t => rw [hs] at hv; exact .inr (RepT.form hv)
  have HB : Hid _ := hb
  clear hb hv C
  generalize placeN (look (some (.dir es)) q) = pl at *
  have fin : Hid (∀ s, s = kindT es q → TextRet w (kindT es q) (.returned (SV s)) w1) := fun s hs => ⟨by rw [hs], HB.out⟩
  by_cases h2 : pl = 2
  · have R : Hid _ := fin.out fileT (by rw [HK.out, if_pos h2])
    subst h2
    rcases hform with rfl | ⟨k, n, rfl⟩
    all_goals
      go_wp2
      go_ret
      exact R.out
  · by_cases h3 : pl = 3
    · have R : Hid _ := fin.out dirT (by rw [HK.out, if_neg h2, if_pos h3])
      subst h3
      rcases hform with rfl | ⟨k, n, rfl⟩
      all_goals
        go_wp2
        go_ret
        exact R.out
    · have R : Hid _ := fin.out noT (by rw [HK.out, if_neg h2, if_neg h3])
      have n2 : (pl == 2) = false := by simpa using h2
      have n3 : (pl == 3) = false := by simpa using h3
      rcases hform with rfl | ⟨k, n, rfl⟩
      all_goals
        go_wp2
        go_ret
        exact R.out

set_option maxHeartbeats 2000000 in
set_option maxRecDepth 50000 in
theorem dataAt_any (Q : Nat → Int → Prop) (es : Ents) (q : List Str) (b : Nat) (nv : Value) (w : World) (hr : RepO w Q (dirV b) (some (.dir es))) (hw : WFE es) (hn : NamesAt w nv q) :
    Calls Tryz.prog 82 #[ptrV b, nv] w fun e w' => TextRet w (readT es q) e w' := by
  have hap := app_list
  have C := look_any Q q (some (.dir es)) (dirV b) nv w hr hw hn
  obtain ⟨ao, cap, rfl, _⟩ := names_form hn
  have HW : Hid _ := hw
  clear hr hn
  go_enter Tryz.func82, Tryz.ntmps82
  go_wp2_with fail
  refine C.mono ?_
  rintro e w1 ⟨⟨v, rfl, hv⟩, hb⟩
  have HB : Hid _ := hb
  clear hb C
  generalize placeN (look (some (.dir es)) q) = pl at *
  cases hs : sub (.dir es) q with
  | none =>
    have hv' : v = .nilIface := by simpa [hs, RepO] using hv
    subst hv'
    have R : Hid (TextRet w (readT es q) (.returned (SV noT)) w1) := ⟨by rw [readT, hs], HB.out⟩
    have a1 := Tryz.assertNil1
    clear hv
    go_wp2
    go_ret
    exact R.out
  | some t =>
    have hv' : RepT w1 Q v t := by simpa [hs, RepO] using hv
    clear hv
    cases hv' with
    | file h hq =>
      rename_i n u d
      have R : Hid (TextRet w (readT es q) (.returned (SV (61 :: d))) w1) := ⟨by rw [readT, hs], HB.out⟩
      have a1 := Tryz.assertFile
      have hl : d.length ≤ 30 := by
        have := sub_wf q (t := .dir es) (n := .file d)
        by_cases he : es = []
        · subst he
          cases q with
          | nil => simp [sub] at hs
          | cons x r => simp [sub, findE] at hs
        · have h2 := this (by unfold WFT; exact ⟨he, HW.out⟩) hs
          unfold WFT at h2; exact h2
      have cd : w1.cell? ⟨n, 1, none⟩ = some (SV d) := (blk_cell h 1).trans rfl
      have HH : Hid _ := h
      clear h hs
      go_wp2
      go_ret
      exact R.out
    | dir h hq he =>
      rename_i n u vs es'
      have R : Hid (TextRet w (readT es q) (.returned (SV noT)) w1) := ⟨by rw [readT, hs], HB.out⟩
      have a1 := Tryz.assertDirNo
      clear h hs he
      go_wp2
      go_ret
      exact R.out

end Go.Proofs.YtdcbgfhkfmohiaaGreatDoor

/- What a snapshot answers: listAt. -/
namespace Go.Proofs.YtdcbgfhkfmohiaaGreatDoor
open Go.RowKit

theorem rep_at {w : World} {Q : Nat → Int → Prop} : ∀ {vs : List (Str × Value)} {es : Ents}, RepE w Q vs es → ∀ k (h : k < vs.length) (h' : k < es.length), vs[k].1 = es[k].1 ∧ RepT w Q vs[k].2 es[k].2 := by
  intro vs es h
  induction vs generalizing es with
  | nil => intro k h1; simp at h1
  | cons e vs ih =>
    cases h with
    | cons h1 h2 =>
      intro k hk hk'
      cases k with
      | zero => exact ⟨rfl, h1⟩
      | succ k => exact ih h2 k (by simpa using hk) (by simpa using hk')

theorem slice_entries (b o n : Nat) (hn : n ≤ 20) (w : World) : (Instr.sliceAt 145 (.pointer (some ⟨b, o, none⟩)) none (some (.int .i64 (n : Int))) none).run Tryz.prog w = .ok (.slice (some ⟨b, o, none⟩) n 20) w := by
  have hsa : (Instr.sureAddr (.pointer (some ⟨b, o, none⟩))).run Tryz.prog w = .ok ⟨b, o, none⟩ w := by kernel_rfl
  simp [Instr.sliceAt, Instr.sliceBounds, Instr.sliceBound, asIntOf, run_underlying Tryz.underlying145, hn, Addr.add, hsa]

theorem labs_take {es : Ents} {k : Nat} (hk : k < es.length) : (es.take (k + 1)).map labE = (es.take k).map labE ++ [labE es[k]] := by rw [List.take_succ_eq_append_getElem hk, List.map_append]; rfl
def LabelsRet (w : World) (es : Ents) (e : Ending) (w' : World) : Prop := ∃ v, e = .returned v ∧ w'.ownsRow w.heap.size 9 1 v (es.map labE).length ((es.map labE).map SV) ∧ Below w.heap.size w w'
theorem labs_row (es : Ents) (k : Nat) (y : Str) : List.take k (List.map (SV ∘ labE) es) ++ [SV y] = List.map SV ((es.take k).map labE ++ [y]) := by simp [List.map_take]

set_option maxHeartbeats 4000000 in
set_option maxRecDepth 50000 in
theorem labels_any (Q : Nat → Int → Prop) (b o : Nat) (vs : List (Str × Value)) (es : Ents) (w : World) (hL : ListAt w b o vs) (hb : b < w.heap.size) (h20 : vs.length ≤ 20) (hE : RepE w Q vs es) (hn : ∀ e ∈ es, e.1.length ≤ 8) :
    Calls Tryz.prog 117 #[.pointer (some ⟨b, o, none⟩)] w fun e w' => LabelsRet w es e w' := by
  have hlen := hE.len
  have cc := hL.count
  have hsl := slice_entries b (o + 1) es.length (by omega)
  have HL : Hid _ := hL
  have HE : Hid _ := hE
  have HN : Hid _ := hn
  have h20i : (vs.length : Int) ≤ 20 := by omega
  clear hL hE hn
  go_enter Tryz.func117, Tryz.ntmps117
  go_wp2_with fail
  go_quiet (fail)
  have HBq : Hid (Below w.heap.size w (w.drewN nq)) := below_drewN (Below.refl _ _) _
  have HSq : Hid ((w.drewN nq).heap.size = w.heap.size) := rfl
  have HLq : Hid (ListAt (w.drewN nq) b o vs) := ⟨HL.out.few, HL.out.cell⟩
  generalize w.drewN nq = wq at *
  clear cc
  go_wp2
  go_loopw [3, 15] (fun v i wr => ∃ k : Nat, k ≤ es.length ∧ i = .int .i64 k ∧ wr.ownsRow w.heap.size 9 1 v k (((es.take k).map labE).map SV) ∧ Below w.heap.size w wr ∧ Below wq.heap.size wq wr) (fun _ i _ => es.length - (intOf i).toNat)
  case atStart => exact ⟨0, Nat.zero_le _, rfl, World.ownsRow_nil _ _ _ _, HBq.out, Below.refl _ _⟩
  case round =>
    obtain ⟨k, hk, rfl, hown, hbw, hbq⟩ := hrel
    have hz := hbw.size
    by_cases hlt : k < es.length
    · have hltv : k < vs.length := by omega
      have cn : wr.cell? ⟨b, o + 1 + k * 2, none⟩ = some (SV vs[k].1) := (hbq.cell (p := ⟨b, o + 1 + k * 2, none⟩) (by have := HSq.out; simp only; omega)).trans (HLq.out.name hltv)
      have cv : wr.cell? ⟨b, o + 1 + k * 2 + 1, none⟩ = some vs[k].2 := (hbq.cell (p := ⟨b, o + 1 + k * 2 + 1, none⟩) (by have := HSq.out; simp only; omega)).trans (HLq.out.node hltv)
      obtain ⟨e1, e2⟩ := rep_at HE.out k hltv hlt
      have hki : (k : Int) < (es.length : Int) := by omega
      have HT : Hid _ := labs_take hlt
      have hx8 := HN.out _ (List.getElem_mem hlt)
      rw [e1] at cn
      generalize vs[k].2 = val at *
      have HB : Hid _ := hbw
      have HBQ : Hid _ := hbq
      obtain ⟨ao0, cap0, rfl⟩ := row_form hown
      have HO : Hid (wr.ownsRow w.heap.size 9 1 (.slice ao0 k cap0) k (((es.take k).map labE).map SV)) := hown
      clear hbw hbq hown
      generalize hek : es[k] = ek at *
      obtain ⟨x, t⟩ := ek
      simp only at cn hx8
      cases e2 with
      | file h hq =>
        rename_i n u d
        have a1 := Tryz.assertFile
        clear h
        go_wp2_with (at_builtin; go_loud (refine wp_app_str rfl (.tmp 24) (.tmp 27) rfl (base := w.heap.size) (wr := wr.alloc (.cells #[SV x, fileV n] 101)) (HO.out.alloc _) x ⟨rfl, rfl, rfl, rfl⟩ rfl (by simp [Act.eval]) (by omega) (by simp; omega) ?_))
        intro v' w2 hown' hb'
        have HO' : Hid (w2.ownsRow w.heap.size 9 1 v' (k + 1) (((es.take (k + 1)).map labE).map SV)) := by rw [Hid, HT.out, ← labs_row]; exact hown'
        have hba := (Below.refl wr.heap.size wr).alloc (Nat.le_refl _) (.cells #[SV x, fileV n] 101)
        have HB' : Hid (Below w.heap.size w w2) := (HB.out.trans (hba.mono HB.out.size)).trans hb'
        have HBQ' : Hid (Below wq.heap.size wq w2) := by
          have h1 : wq.heap.size = w.heap.size := HSq.out
          have h2 := hb'
          rw [← h1] at h2
          exact (HBQ.out.trans (hba.mono HBQ.out.size)).trans h2
        obtain ⟨ao2, cap2, rfl⟩ := row_form hown'
        clear hown' hb' hba
        go_wp2
        go_roundw
        case rel => exact ⟨k + 1, by omega, by go_num, HO'.out, HB'.out, HBQ'.out⟩
        case measure => simp [intOf]; omega
      | dir h hq he =>
        rename_i n u vs' es'
        have a1 := Tryz.assertDirNo
        have a2 := Tryz.assertDir
        have hap := app_list
        clear h he
        go_wp2_with (at_builtin; go_loud (refine wp_app_str rfl (.tmp 32) (.tmp 36) rfl (base := w.heap.size) (wr := wr.alloc (.cells #[SV x, dirV n] 101)) (HO.out.alloc _) (x ++ [47]) ⟨rfl, rfl, rfl, rfl⟩ rfl (by simp [Act.eval]) (by omega) (by simp; omega) ?_))
        intro v' w2 hown' hb'
        have HO' : Hid (w2.ownsRow w.heap.size 9 1 v' (k + 1) (((es.take (k + 1)).map labE).map SV)) := by rw [Hid, HT.out, ← labs_row]; exact hown'
        have hba := (Below.refl wr.heap.size wr).alloc (Nat.le_refl _) (.cells #[SV x, dirV n] 101)
        have HB' : Hid (Below w.heap.size w w2) := (HB.out.trans (hba.mono HB.out.size)).trans hb'
        have HBQ' : Hid (Below wq.heap.size wq w2) := by
          have h1 : wq.heap.size = w.heap.size := HSq.out
          have h2 := hb'
          rw [← h1] at h2
          exact (HBQ.out.trans (hba.mono HBQ.out.size)).trans h2
        obtain ⟨ao2, cap2, rfl⟩ := row_form hown'
        clear hown' hb' hba
        go_wp2
        go_roundw
        case rel => exact ⟨k + 1, by omega, by go_num, HO'.out, HB'.out, HBQ'.out⟩
        case measure => simp [intOf]; omega
    · have hki : ¬ (k : Int) < (es.length : Int) := by omega
      have HB : Hid _ := hbw
      obtain ⟨ao0, cap0, rfl⟩ := row_form hown
      have HO : Hid (wr.ownsRow w.heap.size 9 1 (.slice ao0 k cap0) k (((es.take k).map labE).map SV)) := hown
      have hke : k = es.length := by omega
      subst hke
      clear hbw hbq hown
      have R : Hid (wr.ownsRow w.heap.size 9 1 (.slice ao0 es.length cap0) (es.map labE).length ((es.map labE).map SV)) := by
        have := HO.out
        rw [List.take_length] at this
        rw [Hid, List.length_map]; exact this
      clear HO
      go_wp2
      go_ret
      exact ⟨_, rfl, R.out, HB.out⟩

end Go.Proofs.YtdcbgfhkfmohiaaGreatDoor
