/- The statements about what a store tells of itself: played. -/
import Derived.Test.YtdcbgfhkfmohiaaGreatDoorKb30
import Derived.Deep.DeepCutAuto
import Derived.Test.YtdcbgfhkfmohiaaGreatDoorCards
import Derived.Test.YtdcbgfhkfmohiaaGreatDoorTie
import Derived.ProofKit
import Derived.OpenShut
import Derived.Deep.Slices
import Derived.SizedLaws
import Derived.Carry
import Derived.Shelf.Vars
namespace Go.Proofs.YtdcbgfhkfmohiaaGreatDoor
open Go.RowKit
attribute [local go_sem] Oper.semAt_some

theorem Tryz.infoInt : (Tryz.prog.info? 3).map (fun i => (i.zero, i.size, i.bytes)) = some (some (.int .i64 0), 1, 8) := by kernel_rfl
theorem KAt.grown {w0 w1 w2 : World} {T : Bank} {r : RSt} {row : Option Nat} (h : KAt w0 w1 T r) (hg : w1.grownBy w2 row) (hb : ∀ k, row = some k → w0.heap.size ≤ k ∧ ¬ T.own k ∧ k ≠ T.rr) : KAt w0 w2 T r := by
  refine h.frame (h.base.grown hg h.base.size fun k hk => (hb k hk).1) fun k hk => hg.block k ?_ ?_
  · exact hk.elim h.lt fun e => e ▸ (Array.getElem?_eq_some_iff.1 h.rmap).1
  · intro e
    rcases hk with hk | hk
    · exact (hb k e.symm).2.1 hk
    · exact (hb k e.symm).2.2 hk
theorem KAt.rlt {w0 w1 : World} {T : Bank} {r : RSt} (h : KAt w0 w1 T r) : T.rr < w1.heap.size := (Array.getElem?_eq_some_iff.1 h.rmap).1
theorem moved_free {w0 w1 : World} {T : Bank} {r : RSt} {u u' : Value} (h : KAt w0 w1 T r) (ho : ∀ k, u.ownBlock = some k → ¬ T.own k ∧ k ≠ T.rr) (hm : Moved w1 u u') : ∀ k, u'.ownBlock = some k → ¬ T.own k ∧ k ≠ T.rr := by
  intro k hk
  rcases hm k hk with h1 | h1
  · exact ho k h1
  · exact ⟨fun h2 => by have := h.lt h2; omega, fun e => by have := h.rlt; omega⟩
theorem PlayedAt.push {w0 w1 w2 : World} {T : Bank} {r : RSt} {u u' : Value} {ns : List Nat} {m : Nat} (h1 : KAt w0 w1 T r) (hrow : w1.ownsRow w0.heap.size 3 1 u ns.length (intsV ns)) (ho : ∀ k, u.ownBlock = some k → ¬ T.own k ∧ k ≠ T.rr)
    (h2 : w2.ownsRow w0.heap.size 3 1 u' (ns.length + 1) (intsV ns ++ [.int .i64 (m : Int)])) (hg : w1.grownBy w2 u.ownBlock) (hm : Moved w1 u u') (hp : Played r (ns ++ [m])) : PlayedAt w0 w2 T r u' (ns ++ [m]) :=
  ⟨h1.grown hg fun k hk => ⟨(hrow.lt k hk).1, ho k hk⟩, by
    rw [List.length_append, List.length_singleton]
    rw [show intsV (ns ++ [m]) = intsV ns ++ [.int .i64 (m : Int)] by simp [intsV]]
    exact h2, moved_free h1 ho hm, hp⟩
theorem played_start {w0 w1 : World} {T : Bank} (h : KAt w0 w1 T kR0) : PlayedAt w0 (w1.alloc (.cells #[.int .i64 0] 3)) T kR0 (.slice (some ⟨w1.heap.size, 0, none⟩) 1 1) [0] := by
  refine ⟨h.below ((Below.refl _ _).alloc (Nat.le_refl _) _), World.ownsRow_lit w1 #[.int .i64 0] 1 h.base.size (by unfold maxLen; omega) rfl, ?_, .start⟩
  intro k hk
  simp only [Value.ownBlock, Option.some.injEq] at hk
  subst hk
  exact ⟨fun h2 => by have := h.lt h2; omega, fun e => by have := h.rlt; omega⟩
theorem kIn_first {len : Nat} {O : Nat → KStep} (h : ∀ i, i < len → (O i).ok) : kIn (firstK len O) := by
  unfold firstK
  split
  · unfold kIn; omega
  · exact (h 0 (by omega)).2.2.1

set_option maxHeartbeats 16000000 in
set_option maxRecDepth 50000 in
theorem kPlayed_any (v : Value) (len : Nat) (O : Nat → KStep) (w : World) (h : StepsAt w v len O) (hok : ∀ i, i < len → (O i).ok) (hlen : len ≤ 2000000000000000) (hmx : MaxOk w) :
    Calls Tryz.prog 22 #[v] w fun e w' => PlayedOut w e w' := by
  have C1 := kFirst_any v len O w h hlen
  have C2 := kAwake_any (firstK len O) w (kIn_first hok) hmx
  obtain ⟨ao, cap, rfl, hc⟩ := h
  have HC : Hid _ := hc
  have HOK : Hid _ := hok
  clear hc hok hmx
  generalize firstK len O = c0 at *
  go_enter Tryz.func22, Tryz.ntmps22
  go_wp2_with fail
  refine C1.mono ?_
  rintro e w ⟨rfl, rfl⟩
  go_wp2_with fail
  refine C2.mono ?_
  rintro e w1 ⟨T, rfl, hT⟩
  have HS : Hid _ := played_start hT
  clear hT C1 C2
  generalize hsb : T.sb = sb at *
  go_wp2
  go_loopw [5, 6] (fun u i wr => ∃ (k : Nat) (T' : Bank) (r : RSt) (ns : List Nat), k ≤ len ∧ i = .int .i64 k ∧ T'.sb = sb ∧ PlayedAt w wr T' r u ns) (fun _ i _ => len - (intOf i).toNat)
  case atStart => exact ⟨0, T, kR0, [0], Nat.zero_le _, rfl, hsb, HS.out⟩
  case round =>
    obtain ⟨k, T', r, ns, hk, rfl, rfl, hP⟩ := hrel
    have hf := hP.pl.facts
    obtain ⟨g, cp, rfl, hg, hgb, hcp, hcm, hcell⟩ := ints_cells hP.row hf.2.2.1
    have hl11 := hf.2.2.2.1
    clear HS
    by_cases hlt : k < len
    · have hki : (k : Int) < (len : Int) := by omega
      by_cases h11 : ns.length < 11
      · have h11i : (ns.length : Int) < 11 := by omega
        obtain ⟨gs, os, rfl, hgs, c0', c1, c2, c3⟩ := HC.out k hlt
        have hok := HOK.out k hlt
        have hpos : 0 < ns.length := List.length_pos_iff.2 hf.2.2.1
        have hb0 := hP.st.base
        have hw : ∀ j, wr.cell? ⟨gs, j, none⟩ = w.cell? ⟨gs, j, none⟩ := fun j => hb0.cell (p := ⟨gs, j, none⟩) hgs
        have d0 : wr.cell? ⟨gs, os + k * 4, none⟩ = some (.int .i64 (O k).K) := (hw _).trans c0'
        have d1 : wr.cell? ⟨gs, os + k * 4 + 1, none⟩ = some (.int .i64 (O k).From) := (hw _).trans c1
        have d2 : wr.cell? ⟨gs, os + k * 4 + 2, none⟩ = some (.int .i64 (O k).A) := (hw _).trans c2
        have d3 : wr.cell? ⟨gs, os + k * 4 + 3, none⟩ = some (.int .i64 (O k).B) := (hw _).trans c3
        have CK : Hid (∀ W, Calls Tryz.prog 17 #[.int .i64 (O k).From, .int .i64 (ns.length : Int)] W fun e w' => e = .returned (.int .i64 (kN (O k).From ns.length : Int)) ∧ w' = W) := fun W => kPick_any (O k).From ns.length W hok.2.1 hpos (by omega)
        have hq := kN_lt (O k).From hpos
        generalize kN (O k).From ns.length = q at *
        have hqi : (q : Int) < (ns.length : Int) := by omega
        have da : wr.cell? ⟨g, q, none⟩ = some (.int .i64 (ns[q] : Int)) := hcell q hq
        have CE : Hid (∀ W, Below wr.heap.size wr W → Calls Tryz.prog 18 #[ptrV T'.sb, .int .i64 (ns[q] : Int), (O k).val] W fun e w' => StepOut W.heap.size W T' (playR r (ns[q] : Int) (O k)) e w') := fun W hW =>
          kPlay_any T' r (ns[q] : Int) (O k) W (hP.st.ok.below hW) hP.st.ag (by rw [hP.st.ag.made]; have := hf.2.2.2.2.2.2; omega) hok
        have HM : Hid (ns[q] ∈ ns) := List.getElem_mem hq
        have HP : Hid _ := hP
        have hgr : gs < wr.heap.size := Nat.lt_of_lt_of_le hgs hb0.size
        have KX : Hid (∀ (W : World) (T2 : Bank), Ext wr.heap.size wr T' W T2 → (∀ j, W.cell? ⟨gs, j, none⟩ = wr.cell? ⟨gs, j, none⟩) ∧ W.cell? ⟨g, q, none⟩ = wr.cell? ⟨g, q, none⟩) := fun W T2 hX =>
          ⟨fun j => World.cell?_of_block (a := ⟨gs, j, none⟩) (hX.blk gs hgr fun ho => by have := hP.st.hi gs ho; omega), World.cell?_of_block (a := ⟨g, q, none⟩) (hX.blk g hg (hP.out g rfl).1)⟩
        clear hP hf hb0 hcell hw c0' c1 c2 c3
        generalize O k = o at *
        generalize ns[q] = nq at *
        have KS : Hid (∀ (W : World) (T2 : Bank), Ext wr.heap.size wr T' W T2 → W.cell? ⟨gs, os + k * 4, none⟩ = some (.int .i64 o.K) ∧ W.cell? ⟨gs, os + k * 4 + 1, none⟩ = some (.int .i64 o.From) ∧ W.cell? ⟨gs, os + k * 4 + 2, none⟩ = some (.int .i64 o.A) ∧ W.cell? ⟨gs, os + k * 4 + 3, none⟩ = some (.int .i64 o.B) ∧ W.cell? ⟨g, q, none⟩ = some (.int .i64 (nq : Int))) := fun W T2 hX => ⟨((KX.out W T2 hX).1 _).trans d0, ((KX.out W T2 hX).1 _).trans d1, ((KX.out W T2 hX).1 _).trans d2, ((KX.out W T2 hX).1 _).trans d3, (KX.out W T2 hX).2.trans da⟩
        unfold KStep.val at CE
        unfold maxLen at hcm
        go_wp2_with fail
        go_cut [7, 8] (fun x y wc => ∃ (T2 : Bank), x = .int .i64 ((playR r (nq : Int) o).2.1 : Nat) ∧ y = .int .i64 ((playR r (nq : Int) o).2.2 : Nat) ∧ Okay wc T2 ∧ Agree T2 (playR r (nq : Int) o).1 ∧ Ext wr.heap.size wr T' wc T2)
        case first =>
          go_region_held3 (fun W : World => W.cell? ⟨gs, os + k * 4, none⟩ = some (.int .i64 o.K) ∧ W.cell? ⟨gs, os + k * 4 + 1, none⟩ = some (.int .i64 o.From) ∧ W.cell? ⟨gs, os + k * 4 + 2, none⟩ = some (.int .i64 o.A) ∧ W.cell? ⟨gs, os + k * 4 + 3, none⟩ = some (.int .i64 o.B) ∧ W.cell? ⟨g, q, none⟩ = some (.int .i64 (nq : Int))) (first | exact HS3.out | go_keep)
            (first | (go_at_call 17; refine (CK.out _).mono ?_; rintro e w2 ⟨rfl, rfl⟩) | (go_at_call 18; refine (CE.out _ (Below.refl _ _).drew).mono ?_; rintro e w3 ⟨T2, rfl, h2, h3, h4⟩; have h4' : Ext wr.heap.size wr T' w3 T2 := ⟨h4.os, h4.tape, h4.output, h4.size, h4.four, h4.blk, h4.own⟩; have HS3 := Hid.mk' (KS.out _ _ h4'); have HR3 := Hid.mk' (And.intro h2 (And.intro h3 h4')); clear h2 h3 h4 h4'))
          all_goals
            go_wp2_with fail
            go_meet
            case rel => exact ⟨T2, rfl, rfl, HR3.out⟩
        case rest =>
          obtain ⟨T2, rfl, rfl, h2, h3, h4⟩ := hcut
          have HE := Hid.mk' (HP.out.edit h2 h3 h4)
          have hsb2 : T2.sb = T'.sb := h4.four.1
          have HSB : Hid _ := hsb2
          have HG := Hid.mk' (play_grew r (nq : Int) o)
          clear h2 h3 h4 hsb2
          generalize hoo : playR r (nq : Int) o = oo at *
          obtain ⟨r', m, er⟩ := oo
          simp only at HE ⊢
          by_cases her : er = 0
          · subst her
            have HPL : Hid (Played r' (ns ++ [m])) := .more HP.out.pl h11 HM.out hoo
            have HR2 : Hid (wc.ownsRow w.heap.size 3 1 (.slice (some ⟨g, 0, none⟩) ns.length cp) ns.length (intsV ns)) := HE.out.2.1
            have hbase2 : w.heap.size ≤ wc.heap.size := HE.out.1.base.size
            clear hoo
            go_wp2_with (at_builtin; go_loud (refine wp_app_at 26 3 _ 1 8 Tryz.infoInt Tryz.underlying26 rfl (by decide) rfl (.tmp 48) (.tmp 50) rfl (base := w.heap.size) HR2.out [.int .i64 (m : Int)] rfl (by intro u hu; simp at hu; subst hu; rfl) ⟨rfl, rfl, rfl, rfl⟩ rfl rfl (by unfold maxLen; omega) (by omega) hbase2 ?_))
            intro v' w5 hown5 hg5 hmv5
            have HF : Hid (PlayedAt w w5 T2 r' v' (ns ++ [m])) := PlayedAt.push HE.out.1 HE.out.2.1 HE.out.2.2 hown5 hg5 hmv5 HPL.out
            clear hown5 hg5 hmv5
            go_wp2
            go_roundw
            case rel => exact ⟨k + 1, T2, r', ns ++ [m], by omega, by go_num, HSB.out, HF.out⟩
            case measure => simp [intOf]; omega
          · have heri : ¬ (er : Int) = 0 := by omega
            have hre : r' = r := by
              have := HG.out
              cases this with
              | no _ _ => rfl
              | yes _ _ _ _ => exact absurd rfl her
            subst hre
            clear hoo
            go_wp2
            go_roundw
            case rel => exact ⟨k + 1, T2, r', ns, by omega, by go_num, HSB.out, ⟨HE.out.1, HE.out.2.1, HE.out.2.2, HP.out.pl⟩⟩
            case measure => simp [intOf]; omega
      · have h11i : ¬ (ns.length : Int) < 11 := by omega
        have R : Hid (PlayedOut w (.returned (.tuple #[ptrV T'.sb, .slice (some ⟨g, 0, none⟩) ns.length cp])) wr) := ⟨T', r, _, ns, rfl, hP⟩
        clear hP hf hcell
        go_wp2
        go_ret2
        exact R.out
    · have hki : ¬ (k : Int) < (len : Int) := by omega
      have R : Hid (PlayedOut w (.returned (.tuple #[ptrV T'.sb, .slice (some ⟨g, 0, none⟩) ns.length cp])) wr) := ⟨T', r, _, ns, rfl, hP⟩
      clear hP hf hcell
      go_wp2
      go_ret2
      exact R.out

end Go.Proofs.YtdcbgfhkfmohiaaGreatDoor

/- Kept: the lists of the statement in memory. -/
namespace Go.Proofs.YtdcbgfhkfmohiaaGreatDoor
open Go.RowKit

def boolsV (ts : List Bool) : List Value := ts.map fun b => .bool b
/-- The three lists of Kept, apart from the store and from one another. -/
structure KeptM (w0 w : World) (T : Bank) (a t s : Value) (ns : List Nat) (ts : List Bool) (ws : List (List Fl)) (vs : List Value) : Prop where
  lw : ws.length = ns.length
  ra : w.ownsRow w0.heap.size 3 1 a ns.length (intsV ns)
  rt : w.ownsRow w0.heap.size 4 1 t ns.length (boolsV ts)
  rs : w.ownsRow w0.heap.size 39 1 s ns.length vs
  fv : ∀ (k : Nat) (v : Value) (l : List Fl), vs[k]? = some v → ws[k]? = some l → FilesK w0.heap.size w v l
  oa : ∀ k, a.ownBlock = some k → (¬ T.own k ∧ k ≠ T.rr) ∧ t.ownBlock ≠ some k ∧ s.ownBlock ≠ some k
  ot : ∀ k, t.ownBlock = some k → (¬ T.own k ∧ k ≠ T.rr) ∧ s.ownBlock ≠ some k
  os : ∀ k, s.ownBlock = some k → ¬ T.own k ∧ k ≠ T.rr
  ov : ∀ v ∈ vs, ∀ k, v.ownBlock = some k → (¬ T.own k ∧ k ≠ T.rr) ∧ a.ownBlock ≠ some k ∧ t.ownBlock ≠ some k ∧ s.ownBlock ≠ some k
structure KeptAt (w0 w : World) (T : Bank) (r : RSt) (a t s : Value) (ns : List Nat) (ts : List Bool) (ws : List (List Fl)) (vs : List Value) : Prop where
  st : KAt w0 w T r
  pu : KeptR r ns ts ws
  m : KeptM w0 w T a t s ns ts ws vs
variable {w0 w w' : World} {T T' : Bank} {r r' : RSt} {a a' t t' s s' : Value} {ns : List Nat} {ts : List Bool} {ws : List (List Fl)} {vs : List Value}

theorem KeptM.vlen (h : KeptM w0 w T a t s ns ts ws vs) : vs.length = ns.length := by have := h.rs.1; omega
theorem KeptM.vget (h : KeptM w0 w T a t s ns ts ws vs) {k : Nat} (hk : k < ns.length) : ∃ v l, vs[k]? = some v ∧ ws[k]? = some l ∧ FilesK w0.heap.size w v l := by
  have h1 : k < vs.length := by rw [h.vlen]; exact hk
  have h2 : k < ws.length := by rw [h.lw]; exact hk
  exact ⟨vs[k], ws[k], List.getElem?_eq_getElem h1, List.getElem?_eq_getElem h2, h.fv k _ _ (List.getElem?_eq_getElem h1) (List.getElem?_eq_getElem h2)⟩
/-- Every list's block is there. -/
theorem KeptM.vlt (h : KeptM w0 w T a t s ns ts ws vs) {v : Value} (hv : v ∈ vs) {k : Nat} (hk : v.ownBlock = some k) : w0.heap.size ≤ k ∧ k < w.heap.size := by
  obtain ⟨j, hj⟩ := List.getElem?_of_mem hv
  have hjl : j < ns.length := by rw [← h.vlen]; exact (List.getElem?_eq_some_iff.1 hj).1
  obtain ⟨v', l, h1, h2, h3⟩ := h.vget hjl
  rw [hj] at h1
  simp only [Option.some.injEq] at h1
  subst h1
  exact World.ownsRow.lt h3 k hk
theorem FilesK.kept {base : Nat} {w w' : World} {v : Value} {l : List Fl} (h : FilesK base w v l) (hb : ∀ k, v.ownBlock = some k → w'.heap[k]? = w.heap[k]?) : FilesK base w' v l := rowKept h hb
/-- The worlds in which all blocks stand that the lists have. -/
theorem KeptM.frame (h : KeptM w0 w T a t s ns ts ws vs) (hb : ∀ k, k < w.heap.size → (¬ T.own k ∧ k ≠ T.rr) → w'.heap[k]? = w.heap[k]? ∧ (¬ T'.own k ∧ k ≠ T'.rr)) : KeptM w0 w' T' a t s ns ts ws vs where
  lw := h.lw
  ra := rowKept h.ra fun k hk => (hb k (h.ra.lt k hk).2 (h.oa k hk).1).1
  rt := rowKept h.rt fun k hk => (hb k (h.rt.lt k hk).2 (h.ot k hk).1).1
  rs := rowKept h.rs fun k hk => (hb k (h.rs.lt k hk).2 (h.os k hk)).1
  fv := fun k v l h1 h2 => (h.fv k v l h1 h2).kept fun j hj => (hb j (h.vlt (List.mem_of_getElem? h1) hj).2 (h.ov v (List.mem_of_getElem? h1) j hj).1).1
  oa := fun k hk => ⟨(hb k (h.ra.lt k hk).2 (h.oa k hk).1).2, (h.oa k hk).2⟩
  ot := fun k hk => ⟨(hb k (h.rt.lt k hk).2 (h.ot k hk).1).2, (h.ot k hk).2⟩
  os := fun k hk => (hb k (h.rs.lt k hk).2 (h.os k hk)).2
  ov := fun v hv k hk => ⟨(hb k (h.vlt hv hk).2 (h.ov v hv k hk).1).2, (h.ov v hv k hk).2⟩
theorem KeptM.edit (h : KeptM w0 w T a t s ns ts ws vs) (h3 : Ext w.heap.size w T w' T') : KeptM w0 w' T' a t s ns ts ws vs :=
  h.frame fun k hk hn => by
    rw [show T'.rr = T.rr from h3.four.2.2.2.2]
    have := ext_free h3 hk hn.1
    exact ⟨this.2, this.1, hn.2⟩
theorem KeptM.below (h : KeptM w0 w T a t s ns ts ws vs) (hb : Below w.heap.size w w') : KeptM w0 w' T a t s ns ts ws vs :=
  h.frame fun k hk hn => ⟨hb.block k hk, hn⟩
theorem KeptAt.below (h : KeptAt w0 w T r a t s ns ts ws vs) (hb : Below w.heap.size w w') : KeptAt w0 w' T r a t s ns ts ws vs := ⟨h.st.below hb, h.pu, h.m.below hb⟩
/-- The lists, one longer: the row of numbers, then of marks, then of files. -/
theorem KeptM.push {w1 w2 w3 : World} {n : Nat} {d : Value} {l : List Fl} (h : KeptM w0 w T' a t s ns ts ws vs) (hs : KAt w0 w T' r') (hp : KeptR r' (ns ++ [n]) (ts ++ [true]) (ws ++ [l])) (hd : FilesK w0.heap.size w d l)
    (hdo : ∀ k, d.ownBlock = some k → (¬ T'.own k ∧ k ≠ T'.rr) ∧ a.ownBlock ≠ some k ∧ t.ownBlock ≠ some k ∧ s.ownBlock ≠ some k)
    (ha1 : w1.ownsRow w0.heap.size 3 1 a' (ns.length + 1) (intsV ns ++ [.int .i64 (n : Int)])) (ha2 : w.grownBy w1 a.ownBlock) (ha3 : Moved w a a')
    (ht1 : w2.ownsRow w0.heap.size 4 1 t' (ns.length + 1) (boolsV ts ++ [.bool true])) (ht2 : w1.grownBy w2 t.ownBlock) (ht3 : Moved w1 t t')
    (hs1 : w3.ownsRow w0.heap.size 39 1 s' (ns.length + 1) (vs ++ [d])) (hs2 : w2.grownBy w3 s.ownBlock) (hs3 : Moved w2 s s') :
    KeptAt w0 w3 T' r' a' t' s' (ns ++ [n]) (ts ++ [true]) (ws ++ [l]) (vs ++ [d]) := by
  have z1 : w.heap.size ≤ w1.heap.size := ha2.size
  have z2 : w1.heap.size ≤ w2.heap.size := ht2.size
  have z3 : w2.heap.size ≤ w3.heap.size := hs2.size
  have fa : ∀ k, a.ownBlock = some k → ¬ T'.own k ∧ k ≠ T'.rr := fun k hk => (h.oa k hk).1
  have ft : ∀ k, t.ownBlock = some k → ¬ T'.own k ∧ k ≠ T'.rr := fun k hk => (h.ot k hk).1
  have fs : ∀ k, s.ownBlock = some k → ¬ T'.own k ∧ k ≠ T'.rr := h.os
  have k1 : KAt w0 w1 T' r' := hs.grown ha2 fun k hk => ⟨(h.ra.lt k hk).1, fa k hk⟩
  have k2 : KAt w0 w2 T' r' := k1.grown ht2 fun k hk => ⟨(h.rt.lt k hk).1, ft k hk⟩
  have k3 : KAt w0 w3 T' r' := k2.grown hs2 fun k hk => ⟨(h.rs.lt k hk).1, fs k hk⟩
  have ga := moved_free hs fa ha3
  have gt := moved_free k1 ft ht3
  have gs := moved_free k2 fs hs3
  -- where the new blocks lie
  have ma : ∀ k, a'.ownBlock = some k → k < w1.heap.size := fun k hk => (ha1.lt k hk).2
  have mt : ∀ k, t'.ownBlock = some k → k < w2.heap.size := fun k hk => (ht1.lt k hk).2
  have da : ∀ k, a'.ownBlock = some k → t.ownBlock ≠ some k ∧ s.ownBlock ≠ some k := fun k hk => by
    rcases ha3 k hk with h1 | h1
    · exact (h.oa k h1).2
    · exact ⟨fun e => by have := (h.rt.lt k e).2; omega, fun e => by have := (h.rs.lt k e).2; omega⟩
  have dat : ∀ k, a'.ownBlock = some k → t'.ownBlock ≠ some k := fun k hk e => by
    rcases ht3 k e with h1 | h1
    · exact (da k hk).1 h1
    · have := ma k hk; omega
  have das : ∀ k, a'.ownBlock = some k → s'.ownBlock ≠ some k := fun k hk e => by
    rcases hs3 k e with h1 | h1
    · exact (da k hk).2 h1
    · have := ma k hk; omega
  have dts0 : ∀ k, t'.ownBlock = some k → s.ownBlock ≠ some k := fun k hk e => by
    rcases ht3 k hk with h1 | h1
    · exact (h.ot k h1).2 e
    · have := (h.rs.lt k e).2; omega
  have dts : ∀ k, t'.ownBlock = some k → s'.ownBlock ≠ some k := fun k hk e => by
    rcases hs3 k e with h1 | h1
    · exact dts0 k hk h1
    · have := mt k hk; omega
  -- the files' blocks
  have fine : ∀ v : Value, (∀ k, v.ownBlock = some k → k < w.heap.size ∧ (¬ T'.own k ∧ k ≠ T'.rr) ∧ a.ownBlock ≠ some k ∧ t.ownBlock ≠ some k ∧ s.ownBlock ≠ some k) → ∀ k, v.ownBlock = some k → ((¬ T'.own k ∧ k ≠ T'.rr) ∧ a'.ownBlock ≠ some k ∧ t'.ownBlock ≠ some k ∧ s'.ownBlock ≠ some k) ∧ w3.heap[k]? = w.heap[k]? := by
    intro v hv k hk
    obtain ⟨h1, h2, h3, h4, h5⟩ := hv k hk
    refine ⟨⟨h2, fun e => ?_, fun e => ?_, fun e => ?_⟩, ?_⟩
    · rcases ha3 k e with h6 | h6
      · exact h3 h6
      · omega
    · rcases ht3 k e with h6 | h6
      · exact h4 h6
      · omega
    · rcases hs3 k e with h6 | h6
      · exact h5 h6
      · omega
    · exact (hs2.block k (by omega) (Ne.symm h5)).trans ((ht2.block k (by omega) (Ne.symm h4)).trans (ha2.block k h1 (Ne.symm h3)))
  have fold : ∀ v ∈ vs, ∀ k, v.ownBlock = some k → k < w.heap.size ∧ (¬ T'.own k ∧ k ≠ T'.rr) ∧ a.ownBlock ≠ some k ∧ t.ownBlock ≠ some k ∧ s.ownBlock ≠ some k := fun v hv k hk => ⟨(h.vlt hv hk).2, h.ov v hv k hk⟩
  have fnew : ∀ k, d.ownBlock = some k → k < w.heap.size ∧ (¬ T'.own k ∧ k ≠ T'.rr) ∧ a.ownBlock ≠ some k ∧ t.ownBlock ≠ some k ∧ s.ownBlock ≠ some k := fun k hk => ⟨(World.ownsRow.lt hd k hk).2, hdo k hk⟩
  refine ⟨k3, hp, by rw [List.length_append, List.length_append, h.lw]; rfl, ?_, ?_, ?_, ?_, ?_, ?_, ?_, ?_⟩
  · rw [List.length_append, List.length_singleton, show intsV (ns ++ [n]) = intsV ns ++ [.int .i64 (n : Int)] by simp [intsV]]
    exact rowKept (rowKept ha1 fun k hk => ht2.block k (ma k hk) (Ne.symm (da k hk).1)) fun k hk => hs2.block k (by have := ma k hk; omega) (Ne.symm (da k hk).2)
  · rw [List.length_append, List.length_singleton, show boolsV (ts ++ [true]) = boolsV ts ++ [.bool true] by simp [boolsV]]
    exact rowKept ht1 fun k hk => hs2.block k (mt k hk) (Ne.symm (dts0 k hk))
  · rw [List.length_append, List.length_singleton]
    exact hs1
  · intro k v l' h1 h2
    by_cases hk : k < ns.length
    · rw [List.getElem?_append_left (by rw [h.vlen]; exact hk)] at h1
      rw [List.getElem?_append_left (by rw [h.lw]; exact hk)] at h2
      exact (h.fv k v l' h1 h2).kept fun j hj => (fine v (fold v (List.mem_of_getElem? h1)) j hj).2
    · have hk2 : k = ns.length := by
        have := (List.getElem?_eq_some_iff.1 h1).1
        rw [List.length_append, List.length_singleton, h.vlen] at this; omega
      subst hk2
      rw [List.getElem?_append_right (by rw [h.vlen]; exact Nat.le_refl _), h.vlen, Nat.sub_self] at h1
      rw [List.getElem?_append_right (by rw [h.lw]; exact Nat.le_refl _), h.lw, Nat.sub_self] at h2
      simp at h1 h2
      subst h1 h2
      exact hd.kept fun j hj => (fine d fnew j hj).2
  · exact fun k hk => ⟨ga k hk, dat k hk, das k hk⟩
  · exact fun k hk => ⟨gt k hk, dts k hk⟩
  · exact gs
  · intro v hv k hk
    rw [List.mem_append, List.mem_singleton] at hv
    rcases hv with hv | rfl
    · exact (fine v (fold v hv) k hk).1
    · exact (fine v fnew k hk).1
/-- A mark is taken off. -/
theorem KeptAt.unset {g cap j : Nat} (hst : KAt w0 w T r) (h : KeptM w0 w T a (.slice (some ⟨g, 0, none⟩) ns.length cap) s ns ts ws vs) (hp : KeptR r ns (ts.set j false) ws) :
    KeptAt w0 (w.setCell ⟨g, j, none⟩ (.bool false)) T r a (.slice (some ⟨g, 0, none⟩) ns.length cap) s ns (ts.set j false) ws vs := by
  obtain ⟨h1, h2⟩ := h.rt.stored j (.bool false)
  have hb : ∀ k, k < w.heap.size → k ≠ g → (w.setCell ⟨g, j, none⟩ (.bool false)).heap[k]? = w.heap[k]? := fun k hk hn => h2.block k hk (fun e => hn (Option.some.inj e))
  have hg := h.ot g rfl
  refine ⟨hst.grown h2 fun k hk => ⟨(h.rt.lt k hk).1, (h.ot k hk).1⟩, hp, h.lw, ?_, ?_, ?_, ?_, h.oa, h.ot, h.os, h.ov⟩
  · exact rowKept h.ra fun k hk => hb k (h.ra.lt k hk).2 fun e => (h.oa k hk).2.1 (by rw [e]; rfl)
  · rw [show boolsV (ts.set j false) = (boolsV ts).set j (.bool false) by simp [boolsV, List.map_set]]
    exact h1
  · exact rowKept h.rs fun k hk => hb k (h.rs.lt k hk).2 fun e => hg.2 (by rw [← e]; exact hk)
  · intro k v l h3 h4
    exact (h.fv k v l h3 h4).kept fun i hi => hb i (h.vlt (List.mem_of_getElem? h3) hi).2 fun e => (h.ov v (List.mem_of_getElem? h3) i hi).2.2.1 (by rw [e]; rfl)

end Go.Proofs.YtdcbgfhkfmohiaaGreatDoor

/- Kept: the statement. -/
namespace Go.Proofs.YtdcbgfhkfmohiaaGreatDoor
open Go.RowKit
attribute [local go_sem] Oper.semAt_some

theorem Tryz.infoKB : (Tryz.prog.info? 4).map (fun i => (i.zero, i.size, i.bytes)) = some (some (.bool false), 1, 1) := by kernel_rfl
theorem Tryz.infoKFs : (Tryz.prog.info? 39).map (fun i => (i.zero, i.size, i.bytes)) = some (some (.slice none 0 0), 1, 24) := by kernel_rfl
/-- The value reads as these numbers. -/
def IntsAt (W : World) (v : Value) (len : Nat) (R : Nat → Int) : Prop :=
  ∃ ao cap, v = .slice ao len cap ∧ ∀ i, i < len → ∃ g o, ao = some ⟨g, o, none⟩ ∧ g < W.heap.size ∧ W.cell? ⟨g, o + i, none⟩ = some (.int .i64 (R i))
theorem kept_start {w0 w1 w5 : World} {T : Bank} {s : Value} (h : KAt w0 w1 T kR0) (hs1 : w5.ownsRow w0.heap.size 39 1 s 1 [.slice none 0 0])
    (hs2 : ((w1.alloc (.cells #[.int .i64 0] 3)).alloc (.cells #[.bool true] 4)).grownBy w5 none) (hs3 : Moved ((w1.alloc (.cells #[.int .i64 0] 3)).alloc (.cells #[.bool true] 4)) (.slice none 0 0) s) :
    KeptAt w0 w5 T kR0 (.slice (some ⟨w1.heap.size, 0, none⟩) 1 1) (.slice (some ⟨w1.heap.size + 1, 0, none⟩) 1 1) s [0] [true] [[]] [.slice none 0 0] := by
  have hb1 : Below w1.heap.size w1 (w1.alloc (.cells #[.int .i64 0] 3)) := (Below.refl _ _).alloc (Nat.le_refl _) _
  have hz1 : (w1.alloc (.cells #[.int .i64 0] 3)).heap.size = w1.heap.size + 1 := by simp
  have r1 : (w1.alloc (.cells #[.int .i64 0] 3)).ownsRow w0.heap.size 3 1 (.slice (some ⟨w1.heap.size, 0, none⟩) 1 1) 1 [.int .i64 0] := World.ownsRow_lit w1 #[.int .i64 0] 1 h.base.size (by unfold maxLen; omega) rfl
  have r2 := World.ownsRow_lit (e := 4) (size := 1) (base := w0.heap.size) (w1.alloc (.cells #[.int .i64 0] 3)) #[.bool true] 1 (by have := h.base.size; omega) (by unfold maxLen; omega) rfl
  rw [hz1] at r2
  have hb2 : Below w1.heap.size w1 ((w1.alloc (.cells #[.int .i64 0] 3)).alloc (.cells #[.bool true] 4)) := hb1.trans (((Below.refl _ _).alloc (Nat.le_refl _) _).mono (by omega))
  have hz2 : ((w1.alloc (.cells #[.int .i64 0] 3)).alloc (.cells #[.bool true] 4)).heap.size = w1.heap.size + 2 := by simp
  have k2 : KAt w0 ((w1.alloc (.cells #[.int .i64 0] 3)).alloc (.cells #[.bool true] 4)) T kR0 := h.below hb2
  have r1' := r1.alloc (.cells #[.bool true] 4)
  have hs4 : ∀ k, s.ownBlock = some k → w1.heap.size + 2 ≤ k := fun k hk => by
    rcases hs3 k hk with h1 | h1
    · simp [Value.ownBlock] at h1
    · omega
  have hn : ∀ k, w1.heap.size ≤ k → ¬ T.own k ∧ k ≠ T.rr := fun k hk => ⟨fun h2 => by have := h.lt h2; omega, fun e => by have := h.rlt; omega⟩
  refine ⟨k2.grown hs2 (fun k hk => by simp at hk), keptR_start, rfl, ?_, ?_, hs1, ?_, ?_, ?_, ?_, ?_⟩
  · exact rowKept r1' fun k hk => hs2.block k (r1'.lt k hk).2 (by simp)
  · exact rowKept r2 fun k hk => hs2.block k (r2.lt k hk).2 (by simp)
  · intro k v l h1 h2
    cases k with
    | zero => simp at h1 h2; subst h1 h2; exact World.ownsRow_nil _ _ _ _
    | succ k => simp at h1
  · intro k hk
    simp only [Value.ownBlock, Option.some.injEq] at hk
    subst hk
    exact ⟨hn _ (Nat.le_refl _), by simp [Value.ownBlock], fun e => by have := hs4 _ e; omega⟩
  · intro k hk
    simp only [Value.ownBlock, Option.some.injEq] at hk
    subst hk
    exact ⟨hn _ (by omega), fun e => by have := hs4 _ e; omega⟩
  · exact fun k hk => hn k (by have := hs4 k hk; omega)
  · intro v hv k hk
    simp at hv
    subst hv
    simp [Value.ownBlock] at hk
theorem bools_cells {base : Nat} {w : World} {v : Value} {n : Nat} {ts : List Bool} (h : w.ownsRow base 4 1 v n (boolsV ts)) (hne : 0 < n) : ∃ g cap, v = .slice (some ⟨g, 0, none⟩) n cap ∧ g < w.heap.size ∧ n ≤ cap ∧ cap ≤ maxLen ∧ ∀ k (hk : k < ts.length), w.cell? ⟨g, k, none⟩ = some (.bool ts[k]) := by
  rcases row_cells h with ⟨_, h1⟩ | ⟨g, cap, e, h1, h2, h3, h4, h6⟩
  · omega
  · exact ⟨g, cap, e, h1, h3, h4, fun k hk => h6 k _ (by rw [boolsV, List.getElem?_map, List.getElem?_eq_getElem hk]; rfl)⟩
theorem filesR_cells {base : Nat} {w : World} {v : Value} {n : Nat} {vs : List Value} (h : w.ownsRow base 39 1 v n vs) (hne : 0 < n) : ∃ g cap, v = .slice (some ⟨g, 0, none⟩) n cap ∧ g < w.heap.size ∧ n ≤ cap ∧ cap ≤ maxLen ∧ ∀ k u, vs[k]? = some u → w.cell? ⟨g, k, none⟩ = some u := by
  rcases row_cells h with ⟨_, h1⟩ | ⟨g, cap, e, h1, h2, h3, h4, h6⟩
  · omega
  · exact ⟨g, cap, e, h1, h3, h4, fun k u hk => h6 k _ hk⟩
/-- What the last loop keeps. -/
structure KeptEnd (w0 w : World) (T : Bank) (r : RSt) (a : Value) (ns : List Nat) (j : Nat) : Prop where
  st : KAt w0 w T r
  ra : w.ownsRow w0.heap.size 3 1 a ns.length (intsV ns)
  oa : ∀ k, a.ownBlock = some k → ¬ T.own k ∧ k ≠ T.rr
  pu : ∃ ts ws, KeptR r ns ts ws ∧ ∀ i, 0 < i → i < j → ts[i]? = some false
theorem KeptEnd.gone {w0 w w' : World} {T T' : Bank} {r : RSt} {a : Value} {ns : List Nat} {j n : Nat} (h : KeptEnd w0 w T r a ns j) (hj : ns[j]? = some n) (hj0 : 0 < j) (h1 : Okay w' T') (h2 : Agree T' (releaseR r (n : Int)).1) (h3 : Ext w.heap.size w T w' T') : KeptEnd w0 w' T' (releaseR r (n : Int)).1 a ns (j + 1) := by
  obtain ⟨ts, ws, k1, k2⟩ := h.pu
  have hkl : j < ts.length := by rw [k1.lt']; exact (List.getElem?_eq_some_iff.1 hj).1
  refine ⟨h.st.edit h1 h2 h3, rowKept h.ra fun k hk => (ext_free h3 (h.ra.lt k hk).2 (h.oa k hk).1).2, fun k hk => ?_, _, ws, (k1.gone hj hj0).1, fun i hi hij => ?_⟩
  · rw [show T'.rr = T.rr from h3.four.2.2.2.2]
    exact ⟨(ext_free h3 (h.ra.lt k hk).2 (h.oa k hk).1).1, (h.oa k hk).2⟩
  · by_cases e : i = j
    · subst e; rw [List.getElem?_set_self hkl]
    · rw [List.getElem?_set_ne (by omega)]; exact k2 i hi (by omega)
theorem KeptAt.fin {w0 w : World} {T : Bank} {r : RSt} {a t s : Value} {ns : List Nat} {ts : List Bool} {ws : List (List Fl)} {vs : List Value} (h : KeptAt w0 w T r a t s ns ts ws vs) : KeptEnd w0 w T r a ns 1 :=
  ⟨h.st, h.m.ra, fun k hk => (h.m.oa k hk).1, ts, ws, h.pu, fun i h1 h2 => by omega⟩

theorem KeptM.cellA {w0 w : World} {T : Bank} {t s : Value} {ns : List Nat} {ts : List Bool} {ws : List (List Fl)} {vs : List Value} {g c k : Nat} (h : KeptM w0 w T (.slice (some ⟨g, 0, none⟩) ns.length c) t s ns ts ws vs) (hk : k < ns.length) : w.cell? ⟨g, k, none⟩ = some (.int .i64 (ns[k] : Int)) := by
  rw [h.ra.cellAt k (by omega), intsV, List.getElem?_map, List.getElem?_eq_getElem hk]; rfl
theorem KeptM.cellT {w0 w : World} {T : Bank} {a s : Value} {ns : List Nat} {ts : List Bool} {ws : List (List Fl)} {vs : List Value} {g c k : Nat} (h : KeptM w0 w T a (.slice (some ⟨g, 0, none⟩) ns.length c) s ns ts ws vs) (hk : k < ns.length) (hk2 : k < ts.length) : w.cell? ⟨g, k, none⟩ = some (.bool ts[k]) := by
  rw [h.rt.cellAt k (by omega), boolsV, List.getElem?_map, List.getElem?_eq_getElem hk2]; rfl
theorem KeptM.cellS {w0 w : World} {T : Bank} {a t : Value} {ns : List Nat} {ts : List Bool} {ws : List (List Fl)} {vs : List Value} {g c k : Nat} {v : Value} (h : KeptM w0 w T a t (.slice (some ⟨g, 0, none⟩) ns.length c) ns ts ws vs) (hk : k < ns.length) (hv : vs[k]? = some v) : w.cell? ⟨g, k, none⟩ = some v := by
  rw [h.rs.cellAt k (by omega), hv]
theorem KeptM.forms {w0 w : World} {T : Bank} {a t s : Value} {ns : List Nat} {ts : List Bool} {ws : List (List Fl)} {vs : List Value} (h : KeptM w0 w T a t s ns ts ws vs) (hpos : 0 < ns.length) : ∃ ga ca gt ct gs cs, a = .slice (some ⟨ga, 0, none⟩) ns.length ca ∧ t = .slice (some ⟨gt, 0, none⟩) ns.length ct ∧ s = .slice (some ⟨gs, 0, none⟩) ns.length cs ∧ (ga < w.heap.size ∧ gt < w.heap.size ∧ gs < w.heap.size) ∧ (ns.length ≤ ca ∧ ca ≤ maxLen) ∧ (ns.length ≤ ct ∧ ct ≤ maxLen) ∧ (ns.length ≤ cs ∧ cs ≤ maxLen) := by
  obtain ⟨ga, ca, rfl, h1, _, h2, h3, _⟩ := ints_cells h.ra (List.ne_nil_of_length_pos hpos)
  obtain ⟨gt, ct, rfl, h4, h5, h6, _⟩ := bools_cells h.rt hpos
  obtain ⟨gs, cs, rfl, h7, h8, h9, _⟩ := filesR_cells h.rs hpos
  exact ⟨ga, ca, gt, ct, gs, cs, rfl, rfl, rfl, ⟨h1, h4, h7⟩, ⟨h2, h3⟩, ⟨h5, h6⟩, h8, h9⟩

end Go.Proofs.YtdcbgfhkfmohiaaGreatDoor

/- The arguments of the statements about what a store tells of itself, opened. -/
namespace Go.Proofs.YtdcbgfhkfmohiaaGreatDoor
open Go.ChangeShapes Go.WideShapes Go.ChangeAt Go.RowKit Go.Deep

theorem maxK_shaped {W : World} (h : W.ShapedOpen Tryz.prog) : MaxOk W :=
  Go.Proofs.cell_of_shapedOpen_int (zero := #[.int .i64 0]) (t := 3) h (of_decide_eq_true (by kernel_rfl)) (by kernel_rfl) rfl (by kernel_rfl) (by kernel_rfl) Tryz.underlying3
theorem Tryz.laidOutK : laidOutB Tryz.prog = true := by kernel_rfl
theorem Tryz.cellsStepK : Tryz.prog.cellsOf 35 = 4 := by kernel_rfl
theorem Tryz.cellsIntK : Tryz.prog.cellsOf 3 = 1 := by kernel_rfl
theorem Tryz.bytesStepK : Tryz.prog.bytesOf 35 = 32 := by kernel_rfl
theorem Tryz.bytesIntK : Tryz.prog.bytesOf 3 = 8 := by kernel_rfl
theorem wf_inK {n : Int} (h : (Lit.int .i64 n).wf = true) : kIn n := by
  simp only [Lit.wf, Bool.and_eq_true, decide_eq_true_eq] at h
  have h1 : IntKind.i64.min = -9223372036854775808 := by decide
  have h2 : IntKind.i64.max = 9223372036854775807 := by decide
  rw [h1, h2] at h
  unfold kIn; omega
theorem spot_none {W : World} {a : Addr} {v : Value} (h : W.cell? a = some v) : a = ⟨a.block, a.off, none⟩ := by
  obtain ⟨b, o, s⟩ := a
  cases s with
  | none => rfl
  | some s =>
    unfold World.cell? at h
    simp only [Option.isSome_some, if_true] at h
    split at h <;> simp at h
theorem four {α : Type} {l : List α} (h : l.length = 4) : ∃ a b c d, l = [a, b, c, d] := by
  obtain ⟨a, l, rfl⟩ := List.exists_cons_of_length_pos (by omega : 0 < l.length)
  simp only [List.length_cons] at h
  obtain ⟨b, l, rfl⟩ := List.exists_cons_of_length_pos (by omega : 0 < l.length)
  simp only [List.length_cons] at h
  obtain ⟨c, l, rfl⟩ := List.exists_cons_of_length_pos (by omega : 0 < l.length)
  simp only [List.length_cons] at h
  obtain ⟨d, l, rfl⟩ := List.exists_cons_of_length_pos (by omega : 0 < l.length)
  simp only [List.length_cons] at h
  obtain rfl : l = [] := List.eq_nil_of_length_eq_zero (by omega)
  exact ⟨a, b, c, d, rfl⟩
def KStep.cells (o : KStep) : List Value := [.int .i64 o.K, .int .i64 o.From, .int .i64 o.A, .int .i64 o.B]
theorem open_step {H : Type} {enc : TypeId × Value → H} {W : World} {sp : Nat → Bool} {held : Bool} {fuel : Nat} {cs : List Value} {x : DataW H × List MemPlace} (h : DataW.trod enc Tryz.prog W 0 sp held fuel 35 cs = some x) : ∃ o : KStep, cs = o.cells ∧ o.ok := by
  obtain ⟨xs, n, rfl, rfl, hl, hxl, hf⟩ := DataW.trod_struct Tryz.underlying35 h
  rw [Tryz.cellsStepK] at hl
  obtain ⟨c0, c1, c2, c3, rfl⟩ := four hl
  obtain ⟨x0, x1, x2, x3, rfl⟩ := four (show xs.length = 4 from hxl)
  have f0 : DataW.trod enc Tryz.prog W 0 sp held n 3 (([c0, c1, c2, c3].drop 0).take (Tryz.prog.cellsOf 3)) = some x0 := hf 0 _ rfl
  have f1 : DataW.trod enc Tryz.prog W 0 sp held n 3 (([c0, c1, c2, c3].drop 1).take (Tryz.prog.cellsOf 3)) = some x1 := hf 1 _ rfl
  have f2 : DataW.trod enc Tryz.prog W 0 sp held n 3 (([c0, c1, c2, c3].drop 2).take (Tryz.prog.cellsOf 3)) = some x2 := hf 2 _ rfl
  have f3 : DataW.trod enc Tryz.prog W 0 sp held n 3 (([c0, c1, c2, c3].drop 3).take (Tryz.prog.cellsOf 3)) = some x3 := hf 3 _ rfl
  rw [Tryz.cellsIntK] at f0 f1 f2 f3
  obtain ⟨n0, e0, _, w0⟩ := DataW.trod_int Tryz.underlying3 f0
  obtain ⟨n1, e1, _, w1⟩ := DataW.trod_int Tryz.underlying3 f1
  obtain ⟨n2, e2, _, w2⟩ := DataW.trod_int Tryz.underlying3 f2
  obtain ⟨n3, e3, _, w3⟩ := DataW.trod_int Tryz.underlying3 f3
  simp at e0 e1 e2 e3
  subst e0 e1 e2 e3
  exact ⟨⟨n0, n1, n2, n3⟩, rfl, wf_inK w0, wf_inK w1, wf_inK w2, wf_inK w3⟩

set_option maxRecDepth 100000 in
/-- A script. -/
theorem open_steps {H : Type} {enc : TypeId × Value → H} {W : World} {base : Nat} {v0 : Value} {d0 : DataW H} {p0 : List MemPlace} {ts : List TypeId} {ds : List (DataW H)} {j : Nat} (hv0 : Value.okWide Tryz.prog W .any base 25 v0)
    (h0 : DataW.Trod enc Tryz.prog W 0 (fun _ => true) true 25 v0 d0 p0) (hsz : (DataW.weightsEach Tryz.prog ts ds).all (· ≤ reachBytes) = true) (ht : ts[j]? = some 25) (hd : ds[j]? = some d0) :
    ∃ (len : Nat) (O : Nat → KStep), StepsAt W v0 len O ∧ (∀ i, i < len → (O i).ok) ∧ len ≤ 2000000000000000 := by
  obtain ⟨a0, len, cap, rfl⟩ := okWide_slice Tryz.underlying25 hv0
  obtain ⟨fuel, hf⟩ := h0
  rcases open_slice Tryz.underlying25 hf with ⟨hcs, hx⟩ | ⟨a, len', cap', m, n, D, Pl, hcs, _, hl, hm, hmm, hx, hel⟩
  · simp [Value.cells] at hcs
    obtain ⟨rfl, rfl, rfl⟩ := hcs
    exact ⟨0, fun _ => ⟨0, 0, 0, 0⟩, ⟨none, 0, rfl, fun i hi => by omega⟩, fun i hi => by omega, by omega⟩
  · simp [Value.cells] at hcs
    obtain ⟨rfl, rfl, rfl⟩ := hcs
    simp only [Prod.mk.injEq] at hx
    obtain ⟨rfl, rfl⟩ := hx
    simp only [if_true] at hmm
    subst hmm
    have hs := sized_slice hsz ht hd Tryz.underlying25
    rw [Tryz.bytesStepK] at hs
    simp only [List.length_map, List.length_range] at hs
    have hs2 : (len + (m - len)) * 32 ≤ 140737488351232 := hs
    rw [Tryz.cellsStepK] at hel
    have each : ∀ i, i < len → ∃ o : KStep, (∀ (j : Nat) v, o.cells[j]? = some v → W.cell? ((a.add (i * 4)).add j) = some v) ∧ o.ok := by
      intro i hi
      obtain ⟨cs', hc, ht⟩ := hel i (by omega)
      obtain ⟨_, hl4, hcell⟩ := World.cells?_some hc
      obtain ⟨o, rfl, hO⟩ := open_step ht
      refine ⟨o, fun j v hv => ?_, hO⟩
      rw [hcell j (by rw [← hl4]; exact (List.getElem?_eq_some_iff.1 hv).1)]; exact hv
    haveI : Inhabited KStep := ⟨⟨0, 0, 0, 0⟩⟩
    obtain ⟨O, hO⟩ := choose_lt each
    refine ⟨len, O, ⟨some a, m, rfl, fun i hi => ?_⟩, fun i hi => (hO i hi).2, by omega⟩
    have h00 := (hO 0 (by omega)).1 0 _ rfl
    have ea : a = ⟨a.block, a.off, none⟩ := spot_none (v := _) (by simpa [Addr.add] using h00)
    have hi0 := (hO i hi).1 0 _ rfl
    have hi1 := (hO i hi).1 1 _ rfl
    have hi2 := (hO i hi).1 2 _ rfl
    have hi3 := (hO i hi).1 3 _ rfl
    have eadd : ∀ k, a.add k = ⟨a.block, a.off + k, none⟩ := fun k => by
      unfold Addr.add
      split
      · rename_i e; subst e; exact ea
      · rfl
    have eadd2 : ∀ k j, (a.add k).add j = ⟨a.block, a.off + k + j, none⟩ := fun k j => by
      rw [eadd]
      unfold Addr.add
      split
      · rename_i e; subst e; rfl
      · rfl
    rw [eadd2] at hi0 hi1 hi2 hi3
    exact ⟨a.block, a.off, by rw [← ea], World.block_lt_of_cell? W ⟨a.block, a.off + i * 4 + 0, none⟩ hi0, hi0, hi1, hi2, hi3⟩
set_option maxRecDepth 100000 in
/-- A list of numbers. -/
theorem open_nums {H : Type} {enc : TypeId × Value → H} {W : World} {base : Nat} {v0 : Value} {d0 : DataW H} {p0 : List MemPlace} {ts : List TypeId} {ds : List (DataW H)} {j : Nat} (hv0 : Value.okWide Tryz.prog W .any base 26 v0)
    (h0 : DataW.Trod enc Tryz.prog W 0 (fun _ => true) true 26 v0 d0 p0) (hsz : (DataW.weightsEach Tryz.prog ts ds).all (· ≤ reachBytes) = true) (ht : ts[j]? = some 26) (hd : ds[j]? = some d0) :
    ∃ (len : Nat) (R : Nat → Int), IntsAt W v0 len R ∧ (∀ i, i < len → kIn (R i)) ∧ len ≤ 2000000000000000 := by
  obtain ⟨a0, len, cap, rfl⟩ := okWide_slice Tryz.underlying26 hv0
  obtain ⟨fuel, hf⟩ := h0
  rcases open_slice Tryz.underlying26 hf with ⟨hcs, hx⟩ | ⟨a, len', cap', m, n, D, Pl, hcs, _, hl, hm, hmm, hx, hel⟩
  · simp [Value.cells] at hcs
    obtain ⟨rfl, rfl, rfl⟩ := hcs
    exact ⟨0, fun _ => 0, ⟨none, 0, rfl, fun i hi => by omega⟩, fun i hi => by omega, by omega⟩
  · simp [Value.cells] at hcs
    obtain ⟨rfl, rfl, rfl⟩ := hcs
    simp only [Prod.mk.injEq] at hx
    obtain ⟨rfl, rfl⟩ := hx
    simp only [if_true] at hmm
    subst hmm
    have hs := sized_slice hsz ht hd Tryz.underlying26
    rw [Tryz.bytesIntK] at hs
    simp only [List.length_map, List.length_range] at hs
    have hs2 : (len + (m - len)) * 8 ≤ 140737488351232 := hs
    rw [Tryz.cellsIntK] at hel
    have each : ∀ i, i < len → ∃ c : Int, W.cell? (a.add (i * 1)) = some (.int .i64 c) ∧ kIn c := by
      intro i hi
      obtain ⟨cs', hc, ht⟩ := hel i (by omega)
      obtain ⟨_, hl4, hcell⟩ := World.cells?_some hc
      obtain ⟨c, rfl, _, hw⟩ := DataW.trod_int Tryz.underlying3 ht
      refine ⟨c, ?_, wf_inK hw⟩
      have := hcell 0 (by omega)
      simpa [Addr.add] using this
    haveI : Inhabited Int := ⟨0⟩
    obtain ⟨R, hR⟩ := choose_lt each
    refine ⟨len, R, ⟨some a, m, rfl, fun i hi => ?_⟩, fun i hi => (hR i hi).2, by omega⟩
    have h00 := (hR 0 (by omega)).1
    have ea : a = ⟨a.block, a.off, none⟩ := spot_none (v := _) (by simpa [Addr.add] using h00)
    have hi0 := (hR i hi).1
    have eadd : ∀ k, a.add k = ⟨a.block, a.off + k, none⟩ := fun k => by
      unfold Addr.add
      split
      · rename_i e; subst e; exact ea
      · rfl
    rw [eadd, Nat.mul_one] at hi0
    exact ⟨a.block, a.off, by rw [← ea], World.block_lt_of_cell? W ⟨a.block, a.off + i, none⟩ hi0, hi0⟩

end Go.Proofs.YtdcbgfhkfmohiaaGreatDoor
