/- Same. -/
import Derived.Test.YtdcbgfhkfmohiaaGreatDoorAs18
import Derived.Test.YtdcbgfhkfmohiaaGreatDoorProg
import Derived.RangeFuncNested
import Derived.RangeFuncBound
import Derived.RangeFuncCalls
import Derived.RangeFuncLeaves
import Derived.Shelf.Abstract
import Derived.Shelf.RegionOpen
import Derived.OwnWalkIn
import Derived.TacticsInMore
import Derived.LoopNIn
import Derived.LoopIn
import Derived.LaidEqlPtr
namespace Go.Proofs.YtdcbgfhkfmohiaaGreatDoor
open Go.RowKit

def PlaceOut (w : World) (p : Str) (e : Ending) (w' : World) : Prop :=
  Below w.heap.size w w' ∧ ((isPlaceL p = false ∧ e = .returned (.slice none 0 0)) ∨ (isPlaceL p = true ∧ ∃ a n c, e = .returned (.slice (some a) n c) ∧ NamesAt w' (.slice (some a) n c) (placeQ p)))

set_option maxHeartbeats 1000000 in
theorem namesOrRoot_any (p : Str) (w : World) (hp : p.length + 1 < maxLen) :
    Calls Tryz.prog 50 #[SV p] w fun e w' => PlaceOut w p e w' := by
  have hp0 := hp
  by_cases hr : p = [47]
  · subst hr
    go_enter Tryz.func50, Tryz.ntmps50
    go_wp2
    go_ret
    exact ⟨(Below.refl _ _).alloc (Nat.le_refl _) _, .inr ⟨rfl, _, _, _, rfl, ⟨_, _, rfl, Nat.le_refl _, by unfold maxLen; omega, fun k hk => by simp [placeQ] at hk⟩⟩⟩
  · have e1 : placeQ p = splitL 47 p := if_neg hr
    have e2 : isPlaceL p = isPathL p := by unfold isPlaceL; simp [hr]
    have hb : (p == [47]) = false := by simp [hr]
    go_enter Tryz.func50, Tryz.ntmps50
    go_wp2_with fail
    refine (namesOf_any p _ hp0).mono ?_
    rintro e w1 ⟨hb1, ⟨hpf, rfl⟩ | ⟨hpt, a, nn, c, rfl, hn1⟩⟩
    · have R : Hid (PlaceOut w p (.returned (.slice none 0 0)) w1) := ⟨hb1, .inl ⟨e2.trans hpf, rfl⟩⟩
      clear hb1 hpf
      go_wp2
      go_ret
      exact R.out
    · have R : Hid (PlaceOut w p (.returned (.slice (some a) nn c)) w1) := ⟨hb1, .inr ⟨e2.trans hpt, a, nn, c, rfl, by rw [e1]; exact hn1⟩⟩
      clear hb1 hpt hn1
      go_wp2
      go_ret
      exact R.out

/-- A value that stands for a tree of kept nodes is that tree's own. -/
theorem rep_own {w : World} {B : Bank} (hB : BankAt w B) {v : Value} {t : Tree} (h : RepT w (fun b _ => B.reg b) v t) : v = valT B.ad t ∧ B.has t := by
  cases h with
  | file hf hq =>
    obtain ⟨h1, h2⟩ := reg_file hB hf hq
    exact ⟨(congrArg fileV h2).symm, h1⟩
  | dir hd hq he =>
    obtain ⟨h1, h2⟩ := reg_dir hB hd he hq hq
    exact ⟨(congrArg dirV h2).symm, h1⟩
theorem rep_kept_root {w : World} {B : Bank} (hB : BankAt w B) {es : Ents} (h : es ∈ B.ds) : RepT w (fun b _ => B.reg b) (dirV (B.ad (.dir es))) (.dir es) := by
  have h1 := rep_has hB w.heap.size _ (.dir es) (Nat.le_refl _) h
  refine RepT.keep (fun b u vs hd hq => ⟨u, hd, hq (.inr (Array.getElem?_eq_some_iff.1 hd.2).1)⟩) (fun b u d hf hq => ⟨u, hf, hq (.inr ?_)⟩) h1
  exact (Array.getElem?_eq_some_iff.1 hf).1
theorem valT_inj {w : World} {B : Bank} (hB : BankAt w B) {t t' : Tree} (h : B.has t) (h' : B.has t') : valT B.ad t = valT B.ad t' ↔ t = t' := by
  refine ⟨fun e => ?_, fun e => by rw [e]⟩
  cases t <;> cases t' <;> unfold valT at e <;> simp only [Value.iface.injEq, Value.pointer.injEq, Option.some.injEq, Addr.mk.injEq] at e
  · exact hB.same h h' e.2.1
  · exact absurd e.1 (by decide)
  · exact absurd e.1 (by decide)
  · exact hB.same h h' e.2.1

theorem iface_eq {w : World} {B : Bank} (hB : BankAt w B) {t t' : Tree} (h : B.has t) (h' : B.has t') : ∃ c : Bool, (binOp .eql 99 (valT B.ad t) (valT B.ad t')).run Tryz.prog w = .ok (.bool c) w ∧ (c = true ↔ t = t') := by
  obtain ⟨r, h1, h2⟩ := node_eq (w := w) 9998 (hB.node h) (hB.node h')
  refine ⟨r, ?_, h2.trans (valT_inj hB h h')⟩
  cases t <;> cases t' <;> (unfold valT at h1 ⊢; simp only [binOp]; simp [Op.equal, Op.maxDepth, h1])

theorem sameR_none1 {r : RSt} {n m : Int} {p : Str} (h : findL r.all n = none) : sameR r n m p = (false, 2) := by unfold sameR; rw [h]
theorem sameR_none2 {r : RSt} {n m : Int} {p : Str} (h : findL r.all m = none) : sameR r n m p = (false, 2) := by unfold sameR; rw [h]; split <;> simp_all
theorem sameR_path {r : RSt} {n m : Int} {p : Str} {l k : List Fl} (h : findL r.all n = some l) (h' : findL r.all m = some k) (hp : isPlaceL p = false) : sameR r n m p = (false, 3) := by unfold sameR; rw [h, h']; simp [hp]
theorem sameR_go {r : RSt} {n m : Int} {p : Str} {l k : List Fl} (h : findL r.all n = some l) (h' : findL r.all m = some k) (hp : isPlaceL p = true) : sameR r n m p = sameF l k p := by unfold sameR; rw [h, h']; simp [hp]

/-- A look-up of a store's snapshots, whatever the number. -/
theorem snap_any {w : World} {B : Bank} {r : RSt} (hO : Okay w B) (ha : Agree B r) (n : Int) :
    ∃ v, (∀ W, (∃ k, W = w.drewN k) → (Instr.lookup 82 (.map (some B.rs)) (.int .i64 n) false).run Tryz.prog W = .ok v W) ∧ ((v = .pointer none ∧ findL r.all n = none) ∨ ∃ es k, (k, es) ∈ B.ss ∧ v = ptrV (B.ad (.dir es)) ∧ findL r.all n = some (toF (filesE es))) := by
  have hW : ∀ W, (∃ k, W = w.drewN k) → BankAt W B := by rintro W ⟨k, rfl⟩; exact hO.at'.frame fun _ _ => rfl
  rcases find_agree ha n with ⟨hf, hno⟩ | ⟨k, es, hk, rfl, hf⟩
  · exact ⟨_, fun W h => snap_none (hW W h) hno, .inl ⟨rfl, hf⟩⟩
  · exact ⟨_, fun W h => snap_look (hW W h) hk, .inr ⟨es, k, hk, rfl, hf⟩⟩

set_option maxHeartbeats 8000000 in
set_option maxRecDepth 50000 in
theorem storeSame_any (B : Bank) (r : RSt) (n m : Int) (p : Str) (w : World) (hO : Okay w B) (ha : Agree B r) (hp : p.length + 1 < maxLen) :
    Calls Tryz.prog 29 #[ptrV B.sb, .int .i64 n, .int .i64 m, SV p] w fun e w' => SameOut w (sameR r n m p) e w' := by
  have s2 : w.cell? ⟨B.sb, 2, none⟩ = some (.map (some B.rs)) := (blk_cell hO.at'.store 2).trans rfl
  obtain ⟨v1, hl1, h1⟩ := snap_any hO ha n
  obtain ⟨v2, hl2, h2⟩ := snap_any hO ha m
  have L1 : Hid _ := hl1
  have L2 : Hid _ := hl2
  have H1 : Hid _ := h1
  have H2 : Hid _ := h2
  have HO : Hid _ := hO
  have hpm := hp
  clear hl1 hl2 h1 h2 hO ha
  go_enter Tryz.func29, Tryz.ntmps29
  go_wp2
  refine wp_region_quiet_lit (by kernel_rfl) (by kernel_rfl) ?_
  quiet_step (fail)
  quiet_step (fail)
  quiet_step (fail)
  quiet_step (fail)
  quiet_step (fail)
  refine quiet_lookup rfl 82 (.tmp 20) (.tmp 21) rfl _ _ _ rfl rfl (fun W hW => L1.out W hW) ?_
  quiet_step (fail)
  quiet_step (fail)
  quiet_step (fail)
  quiet_step (fail)
  quiet_step (fail)
  refine quiet_lookup rfl 82 (.tmp 26) (.tmp 27) rfl _ _ _ rfl rfl (fun W hW => L2.out W hW) ?_
  quiet_step (fail)
  quiet_step (fail)
  refine wpQuiet_nil ?_
  intro _ hw'
  obtain ⟨nq, hw''⟩ := hw'
  subst hw''
  have HBq : Hid (Below w.heap.size w (w.drewN nq)) := below_drewN (Below.refl _ _) _
  have HOq : Hid (Okay (w.drewN nq) B) := HO.out.frame fun _ _ => rfl
  have HSz : Hid ((w.drewN nq).heap.size = w.heap.size) := rfl
  clear s2 L1 L2
  generalize w.drewN nq = wq at *
  rcases H1.out with ⟨rfl, hf1⟩ | ⟨es1, k1, hk1, rfl, hf1⟩
  · have R : Hid (SameOut w (sameR r n m p) (.returned (.tuple #[.bool false, .int .i64 2])) wq) := by rw [Hid, sameR_none1 hf1]; exact ⟨rfl, HBq.out⟩
    clear H1 H2 HO HBq hf1
    go_wp2
    go_ret2
    exact R.out
  · rcases H2.out with ⟨rfl, hf2⟩ | ⟨es2, k2, hk2, rfl, hf2⟩
    · have R : Hid (SameOut w (sameR r n m p) (.returned (.tuple #[.bool false, .int .i64 2])) wq) := by rw [Hid, sameR_none2 hf2]; exact ⟨rfl, HBq.out⟩
      clear H1 H2 HO HBq hf1 hf2 hk1
      generalize B.ad (.dir es1) = b1 at *
      go_wp2
      go_ret2
      exact R.out
    · have HF1 : Hid _ := hf1
      have HF2 : Hid _ := hf2
      have hwf1 : WFE es1 := (HO.out.wf _ hk1).1
      have hwf2 : WFE es2 := (HO.out.wf _ hk2).1
      have HR1 : Hid (RepT wq (fun b _ => B.reg b) (dirV (B.ad (.dir es1))) (.dir es1)) := rep_kept_root HOq.out.at' (HOq.out.at'.roots _ hk1)
      have HR2 : Hid (RepT wq (fun b _ => B.reg b) (dirV (B.ad (.dir es2))) (.dir es2)) := rep_kept_root HOq.out.at' (HOq.out.at'.roots _ hk2)
      clear H1 H2 hf1 hf2 hk1 hk2 HO
      generalize B.ad (.dir es1) = b1 at *
      generalize B.ad (.dir es2) = b2 at *
      have hsn := slice_some
      have hs0 := slice_none
      have hin := iface_some
      have hi0 := iface_none
      go_wp2_with fail
      refine (namesOrRoot_any p _ hpm).mono ?_
      rintro e w1 ⟨hb1, ⟨hpf, rfl⟩ | ⟨hpt, a, nn, c, rfl, hn1⟩⟩
      · have R : Hid (SameOut w (sameR r n m p) (.returned (.tuple #[.bool false, .int .i64 3])) w1) := by rw [Hid, sameR_path HF1.out HF2.out hpf]; exact ⟨rfl, HBq.out.trans (hb1.mono (by rw [HSz.out]; exact Nat.le_refl _))⟩
        clear hpf hb1
        go_wp2
        go_ret2
        exact R.out
      · have HG : Hid (sameR r n m p = sameF (toF (filesE es1)) (toF (filesE es2)) p) := sameR_go HF1.out HF2.out hpt
        have HP : Hid _ := same_pure hwf1 hwf2 hpt
        have HB1 : Hid (Below w.heap.size w w1) := HBq.out.trans (hb1.mono (by rw [HSz.out]; exact Nat.le_refl _))
        have HN1 : Hid (NamesAt w1 (.slice (some a) nn c) (placeQ p)) := hn1
        have HO1 : Hid (Okay w1 B) := HOq.out.below hb1
        have CL : Hid (Calls Tryz.prog 51 #[dirV b1, .slice (some a) nn c] w1 fun e w' => LookOut w' (fun b _ => B.reg b) (some (.dir es1)) (placeQ p) e ∧ Below w1.heap.size w1 w') :=
          look_any (fun b _ => B.reg b) (placeQ p) (some (.dir es1)) _ _ w1 (HR1.out.later hb1 (Nat.le_refl _)) hwf1 hn1
        have HR2' : Hid (RepT w1 (fun b _ => B.reg b) (dirV b2) (.dir es2)) := HR2.out.later hb1 (Nat.le_refl _)
        clear hb1 hn1 hpt HF1 HF2 HR1 HR2 HOq HBq HSz
        go_wp2_with fail
        refine CL.out.mono ?_
        rintro e w2 ⟨⟨va, rfl, hr1⟩, hb2⟩
        have HB2 : Hid (Below w.heap.size w w2) := HB1.out.trans (hb2.mono HB1.out.size)
        have HO2 : Hid (Okay w2 B) := HO1.out.below hb2
        have CL2 : Hid (Calls Tryz.prog 51 #[dirV b2, .slice (some a) nn c] w2 fun e w' => LookOut w' (fun b _ => B.reg b) (some (.dir es2)) (placeQ p) e ∧ Below w2.heap.size w2 w') :=
          look_any (fun b _ => B.reg b) (placeQ p) (some (.dir es2)) _ _ w2 (HR2'.out.later hb2 (Nat.le_refl _)) hwf2 (names_below HN1.out hb2 (Nat.le_refl _))
        have HV1 : Hid (RepO w2 (fun b _ => B.reg b) va ((some (Tree.dir es1)).bind fun t => sub t (placeQ p))) := hr1
        clear hb2 hr1 CL HN1 HR2' HO1 HB1
        generalize placeN (look (some (.dir es1)) (placeQ p)) = pl1 at *
        go_wp2_with fail
        refine CL2.out.mono ?_
        rintro e w3 ⟨⟨vb, rfl, hr2⟩, hb3⟩
        have HB3 : Hid (Below w.heap.size w w3) := HB2.out.trans (hb3.mono HB2.out.size)
        have hO3 : Okay w3 B := HO2.out.below hb3
        generalize placeN (look (some (.dir es2)) (placeQ p)) = pl2 at *
        simp only [Option.bind_some] at hr2
        have hr1 := HV1.out
        simp only [Option.bind_some] at hr1
        cases hx1 : sub (.dir es1) (placeQ p) with
        | none =>
          rw [hx1] at hr1
          cases hr1
          have R : Hid (SameOut w (sameR r n m p) (.returned (.tuple #[.bool false, .int .i64 6])) w3) := by rw [Hid, HG.out, HP.out.1 (.inl hx1)]; exact ⟨rfl, HB3.out⟩
          clear hr2 hb3 hO3 HV1 CL2 hx1
          go_wp2
          go_ret2
          exact R.out
        | some t1 =>
          rw [hx1] at hr1
          obtain ⟨ve1, hh1⟩ := rep_own HO2.out.at' hr1
          cases hx2 : sub (.dir es2) (placeQ p) with
          | none =>
            rw [hx2] at hr2
            cases hr2
            obtain ⟨kk, bb, rfl⟩ := RepT.form hr1
            have R : Hid (SameOut w (sameR r n m p) (.returned (.tuple #[.bool false, .int .i64 6])) w3) := by rw [Hid, HG.out, HP.out.1 (.inr hx2)]; exact ⟨rfl, HB3.out⟩
            clear hr1 hb3 hO3 HV1 CL2 hx1 hx2 ve1 hh1
            go_wp2
            go_ret2
            exact R.out
          | some t2 =>
            rw [hx2] at hr2
            obtain ⟨ve2, hh2⟩ := rep_own hO3.at' hr2
            obtain ⟨cc, heq, hcc⟩ := iface_eq hO3.at' hh1 hh2
            rw [← ve1, ← ve2] at heq
            obtain ⟨kk, bb, rfl⟩ := RepT.form hr1
            obtain ⟨kk', bb', rfl⟩ := RepT.form hr2
            have R : Hid (SameOut w (sameR r n m p) (.returned (.tuple #[.bool cc, .int .i64 0])) w3) := by rw [Hid, HG.out, HP.out.2 t1 t2 hx1 hx2 cc hcc]; exact ⟨rfl, HB3.out⟩
            clear hr1 hr2 hb3 hO3 HV1 CL2 hx1 hx2 ve1 hh1 ve2 hh2 hcc
            go_wp2
            go_ret2
            exact R.out

end Go.Proofs.YtdcbgfhkfmohiaaGreatDoor

/- The law's asks: Same. -/
namespace Go.Proofs.YtdcbgfhkfmohiaaGreatDoor
open Go.RowKit

theorem duo_below {w w' : World} {D : Duo} (h : DuoAt w D) (hb : Below w.heap.size w w') : DuoAt w' D := h.frame fun k hk => hb.block k (h.own_lt hk)
theorem ArgsAt.below {W W2 : World} {h : Nat} {D : Duo} {K Wn N M : Int} {S T : Str} {L : Value} (hA : ArgsAt W h D K Wn N M S T L) (hb : Below W.heap.size W W2) : ArgsAt W2 h D K Wn N M S T L :=
  ⟨(hb.block _ (Array.getElem?_eq_some_iff.1 hA.pair).1).trans hA.pair, (hb.block _ (Array.getElem?_eq_some_iff.1 hA.op).1).trans hA.op⟩

set_option maxHeartbeats 4000000 in
set_option maxRecDepth 50000 in
theorem asks_same (D : Duo) (Wn N M : Int) (S T : Str) (L : Value) (w : World) (hD : DuoAt w D) (hS : S.length + 1 < maxLen) :
    Calls Tryz.prog 70 #[pairV D, opV 7 Wn N M S T L] w fun e w' => EditOut w D e w' := by
  have HD : Hid _ := hD
  have hS0 := hS
  clear hD
  obtain ⟨w1, hw1, hA1, hb1, hsz1⟩ := args_box w D 7 Wn N M S T L
  have hD1 : DuoAt w1 D := duo_below HD.out hb1
  have C : Hid (Calls Tryz.prog 29 #[ptrV D.B.sb, .int .i64 N, .int .i64 M, SV S] w1 fun e w' => SameOut w1 (sameR D.r N M S) e w') := storeSame_any D.B D.r N M S w1 hD1.ok hD1.ag hS0
  have HA1 : Hid _ := hA1
  have HB1 : Hid _ := hb1
  have HD1 : Hid _ := hD1
  have HW1 : Hid _ := hw1
  clear hA1 hb1 hD1 hw1
  go_enter Tryz.func70, Tryz.ntmps70
  go_wp2_with fail
  rw [← HW1.out]
  refine C.out.mono ?_
  rintro e w2 ⟨rfl, hb2⟩
  have hA2 := HA1.out.below hb2
  have hD2 : DuoAt w2 D := duo_below HD1.out hb2
  have CR : Hid (Calls Tryz.prog 102 #[.pointer (some ⟨D.b, 0, none⟩), .int .i64 N, .int .i64 M, SV S] w2 fun e w' => SameOut w2 (sameR D.r N M S) e w') := refSame_any D.b D.r D.va D.vr D.sn N M S w2 hD2.ref (by unfold maxLen at hS0 ⊢; omega)
  have cN : w2.cell? ⟨w.heap.size + 1, 2, none⟩ = some (.int .i64 N) := (blk_cell hA2.op 2).trans rfl
  have cM : w2.cell? ⟨w.heap.size + 1, 3, none⟩ = some (.int .i64 M) := (blk_cell hA2.op 3).trans rfl
  have cS : w2.cell? ⟨w.heap.size + 1, 4, none⟩ = some (SV S) := (blk_cell hA2.op 4).trans rfl
  have cB : w2.cell? ⟨w.heap.size, 1, none⟩ = some (ptrV D.b) := (blk_cell hA2.pair 1).trans rfl
  have HB2 : Hid (Below w.heap.size w w2) := HB1.out.trans (hb2.mono HB1.out.size)
  clear hb2 hA2 hD2 C HA1 HD1
  generalize sameR D.r N M S = o at *
  obtain ⟨o1, o2⟩ := o
  go_wp2_with fail
  refine CR.out.mono ?_
  rintro e w3 ⟨rfl, hb3⟩
  have hb4 : Below w.heap.size w w3 := HB2.out.trans (hb3.mono HB2.out.size)
  have RR : Hid (∃ D', DuoAt w3 D' ∧ DuoStep w D w3 D') := ⟨D, duo_below HD.out hb4, DuoStep.of_below hb4⟩
  clear hb3 hb4 CR cN cM cS cB HB2
  cases o1
  all_goals
    go_wp2_with (go_at_call 68; refine (num_any _ _).mono ?_; rintro e w4 ⟨rfl, rfl⟩)
    go_ret
    exact ⟨by first | rfl | simp, RR.out⟩

end Go.Proofs.YtdcbgfhkfmohiaaGreatDoor

/- A range over a function whose rounds never leave early: a law told by who may turn which blocks. -/
namespace Go.Proofs.YtdcbgfhkfmohiaaGreatDoor
open Go.RowKit

/-- Blocks of O, and new ones, may have turned; what is owned then was owned or is new. -/
structure Turn (O : Nat → Prop) (W W' : World) (O' : Nat → Prop) : Prop where
  os : W'.os = W.os
  tape : W'.tape = W.tape
  output : W'.output = W.output
  size : W.heap.size ≤ W'.heap.size
  blk : ∀ k, k < W.heap.size → ¬ O k → W'.heap[k]? = W.heap[k]?
  own : ∀ k, O' k → O k ∨ W.heap.size ≤ k

theorem Turn.refl (O : Nat → Prop) (W : World) : Turn O W W O := ⟨rfl, rfl, rfl, Nat.le_refl _, fun _ _ _ => rfl, fun _ h => .inl h⟩
theorem Turn.trans {O O1 O2 : Nat → Prop} {A B C : World} (h : Turn O A B O1) (k : Turn O1 B C O2) : Turn O A C O2 where
  os := k.os.trans h.os
  tape := k.tape.trans h.tape
  output := k.output.trans h.output
  size := Nat.le_trans h.size k.size
  blk := fun i hi hn => (k.blk i (Nat.lt_of_lt_of_le hi h.size) (fun ho => (h.own i ho).elim hn (fun h2 => by omega))).trans (h.blk i hi hn)
  own := fun i hi => (k.own i hi).elim (fun h2 => h.own i h2) (fun h2 => .inr (Nat.le_trans h.size h2))
theorem Turn.of_below {O : Nat → Prop} {A B : World} (h : Below A.heap.size A B) : Turn O A B O := ⟨h.os, h.tape, h.output, h.size, fun k hk _ => h.block k hk, fun _ h => .inl h⟩
/-- What was not owned and lay there is not owned. -/
theorem Turn.free {O O' : Nat → Prop} {A B : World} (h : Turn O A B O') {k : Nat} (hk : k < A.heap.size) (hn : ¬ O k) : ¬ O' k := fun ho => (h.own k ho).elim hn (fun h2 => by omega)

/-- What speaks of the owned blocks, all of which are there, and of the first b blocks alone. -/
structure Local (b : Nat) (J : (Nat → Prop) → World → Prop) : Prop where
  keep : ∀ O W W', J O W → W'.os = W.os → W'.tape = W.tape → W'.output = W.output → W.heap.size ≤ W'.heap.size → (∀ k, O k ∨ k < b → W'.heap[k]? = W.heap[k]?) → J O W'
  lt : ∀ O W, J O W → b ≤ W.heap.size ∧ ∀ k, O k → k < W.heap.size

theorem Local.mono {b b' : Nat} {J : (Nat → Prop) → World → Prop} (h : Local b J) (hb : b ≤ b') : Local b' fun O W => J O W ∧ b' ≤ W.heap.size :=
  ⟨fun O W W' hj h1 h2 h3 h4 h5 => ⟨h.keep O W W' hj.1 h1 h2 h3 h4 (fun k hk => h5 k (hk.imp id fun h => by omega)), by omega⟩, fun O W hj => ⟨hj.2, (h.lt O W hj.1).2⟩⟩
theorem Local.below {b : Nat} {J : (Nat → Prop) → World → Prop} (h : Local b J) {O : Nat → Prop} {A B : World} (hj : J O A) (hb : Below A.heap.size A B) : J O B :=
  h.keep O A B hj hb.os hb.tape hb.output hb.size fun k hk => hb.block k (hk.elim (fun h1 => (h.lt O A hj).2 k h1) (fun h1 => Nat.lt_of_lt_of_le h1 (h.lt O A hj).1))
/-- One block that is not owned, and none of the first, has turned. -/
theorem Local.put {b : Nat} {J : (Nat → Prop) → World → Prop} (h : Local b J) {O : Nat → Prop} {A : World} (hj : J O A) {l : Nat} (hl : ¬ O l) (hb : b ≤ l) (o : Obj) : J O (A.putObj l o) :=
  h.keep O A _ hj rfl rfl rfl (by simp) fun k hk => World.putObj_heap_other (fun e => hk.elim (fun h1 => hl (e ▸ h1)) (fun h1 => by omega))

theorem roomW (k : Nat) : Fence.wide.room k := fun d h => by cases h
theorem round_any {m m' : Nat} {P : Program} {l : Nat} {f : FuncId} {tmps : Array Value} {assign body : Code} {w : World} {R : Ending → World → Prop}
    (h : RoundIn Fence.wide m P l f tmps assign body w R) : RoundIn Fence.wide m' P l f tmps assign body w R := ⟨h.1, fun c cs _ => h.2 c cs (roomW _)⟩
theorem yield_any {m : Nat} (m' : Nat) {P : Program} {l : Nat} {args : Array Value} {W : World} {R : Ending → World → Prop} (h : YieldAt Fence.wide m P l args W R) : YieldAt Fence.wide m' P l args W R := by
  obtain ⟨fn, tmps, assign, body, hy, hR⟩ := h
  exact ⟨fn, tmps, assign, body, hy, round_any hR⟩

/-- The function value g (with what it has captured) hands on xs, in order, to every loop whose rounds never leave early; it reads blocks of R alone, which stand as in w and are not the loop's. -/
def SeqOf {α : Type} (P : Program) (g : Nat) (lb : Array Value) (encs : α → Array Value) (xs : List α) (R : Nat → Prop) (w : World) : Prop :=
  ∀ (n m l : Nat) (J : List α → (Nat → Prop) → World → Prop) (O : Nat → Prop) (W : World), w.heap.size ≤ W.heap.size → (∀ k, R k → k < w.heap.size ∧ W.heap[k]? = w.heap[k]? ∧ ¬ O k) → (∀ pre, Local W.heap.size (J pre)) →
    (∀ pre x O1 W1, J pre O1 W1 → pre ++ [x] <+: xs → YieldAt Fence.wide m P l (encs x) W1 fun e W' => e = .returned (.bool true) ∧ ∃ O', J (pre ++ [x]) O' W' ∧ Turn O1 W1 W' O') →
    J [] O W → CallsIn Fence.wide n P g (#[.func (.yield l) #[] #[]] ++ lb) W fun e W' => (∃ v, e = .returned v) ∧ ∃ O', J xs O' W' ∧ Turn O W W' O'

/-- Two worlds that part in one block. -/
structure Only (l : Nat) (A B : World) : Prop where
  os : B.os = A.os
  tape : B.tape = A.tape
  output : B.output = A.output
  size : B.heap.size = A.heap.size
  blk : ∀ k, k ≠ l → B.heap[k]? = A.heap[k]?
theorem Only.put (l : Nat) (A : World) (o : Obj) : Only l A (A.putObj l o) := ⟨rfl, rfl, rfl, by simp, fun _ hk => World.putObj_heap_other hk⟩

def goesOn {α : Type} (I : List α → (Nat → Prop) → World → Prop) (xs : List α) (O : Nat → Prop) (W : World) : Exit → Act → World → Prop
  | .normal, _, W' => ∃ O', I xs O' W' ∧ Turn O W W' O'
  | _, _, _ => False

/-- The iterator's call, from the loop's record on. -/
theorem range_core {α : Type} {P : Program} {gf : Nat} {lb : Array Value} {encs : α → Array Value} {xs : List α} {R : Nat → Prop} {w0 W1 : World} (hseq : SeqOf P gf lb encs xs R w0) (n m l b : Nat) (r : Loop)
    (hl : W1.heap[l]? = some (.loop r)) (hrs : r.state = .ready) (hrp : r.pending = none) (hrf : Fence.wide.fn r.fn) (hps : ∀ x, (encs x).size = r.params.size) (O : Nat → Prop) (hsz : w0.heap.size ≤ W1.heap.size) (hR : ∀ k, R k → k < w0.heap.size ∧ W1.heap[k]? = w0.heap[k]? ∧ ¬ O k ∧ k ≠ l) (hlO : ¬ O l)
    (hb : b ≤ l) (I : List α → (Nat → Prop) → World → Prop) (hloc : ∀ pre, Local b (I pre)) (h0 : I [] O W1) (Ax : α → Act → World → Prop)
    (hassign : ∀ pre x O1 W (K : Act → World → Prop), pre ++ [x] <+: xs → I pre O1 W → (∀ a' W', Below W.heap.size W W' → Ax x a' W' → K a' W') →
      r.assign.wpIn (Fence.wide.inRound l) m P (Exit.then K (fun _ _ _ => False)) { tmps := (r.params.zip (encs x)).foldl (fun t (p, v) => t.setIfInBounds p v) r.tmps, defers := [] } W)
    (hbody : ∀ pre x O1 a' W' W2, pre ++ [x] <+: xs → ¬ O1 l → Ax x a' W' → W'.heap[l]? = some (.loop r) → Only l W' W2 → W2.heap[l]? = some (.loop { r with state := .busy }) → I pre O1 W2 → Turn (fun k => O k ∨ k = l) W1 W2 (fun k => O1 k ∨ k = l) →
      r.body.wpIn (Fence.wide.inRound l) m P (goesOn I (pre ++ [x]) O1 W2) a' W2) :
    CallsIn Fence.wide n P gf (#[.func (.yield l) #[] #[]] ++ lb) W1 fun e W' => (∃ v, e = .returned v) ∧ ∃ O', I xs O' W' ∧ ¬ O' l ∧ W'.heap[l]? = some (.loop r) ∧ Turn (fun k => O k ∨ k = l) W1 W' (fun k => O' k ∨ k = l) := by
  have hl1 : l < W1.heap.size := (Array.getElem?_eq_some_iff.1 hl).1
  refine (hseq n m l (fun pre Oj W => ∃ O1, I pre O1 W ∧ ¬ O1 l ∧ Oj = (fun k => O1 k ∨ k = l) ∧ W.heap[l]? = some (.loop r) ∧ Turn (fun k => O k ∨ k = l) W1 W Oj) (fun k => O k ∨ k = l) W1 hsz
    (fun k hk => ⟨(hR k hk).1, (hR k hk).2.1, fun h => h.elim (hR k hk).2.2.1 (hR k hk).2.2.2⟩) ?_ ?_ ⟨O, h0, hlO, rfl, hl, Turn.refl _ _⟩).mono ?_
  · intro pre
    refine ⟨?_, ?_⟩
    · rintro Oj W W' ⟨O1, hi, hn, rfl, hlw, ht⟩ h1 h2 h3 h4 h5
      exact ⟨O1, (hloc pre).keep O1 W W' hi h1 h2 h3 h4 (fun k hk => h5 k (hk.imp .inl fun h => by omega)), hn, rfl, (h5 l (.inl (.inr rfl))).trans hlw,
        ⟨h1.trans ht.os, h2.trans ht.tape, h3.trans ht.output, Nat.le_trans ht.size h4, fun k hk hno => (h5 k (.inr hk)).trans (ht.blk k hk hno), ht.own⟩⟩
    · rintro Oj W ⟨O1, hi, hn, rfl, hlw, ht⟩
      refine ⟨ht.size, ?_⟩
      rintro k (hk | rfl)
      · exact ((hloc pre).lt O1 W hi).2 k hk
      · exact (Array.getElem?_eq_some_iff.1 hlw).1
  · rintro pre x Oj W ⟨O1, hi, hn, rfl, hlw, ht⟩ hx
    have hy := run_yield (P := P) (args := encs x) hlw (hps x)
    refine ⟨_, _, _, _, hy, roundIn_of_wpIn hrf (hassign pre x O1 W _ hx hi ?_)⟩
    intro a' Wa hba hax
    have hlt : l < W.heap.size := (Array.getElem?_eq_some_iff.1 hlw).1
    have hla : Wa.heap[l]? = some (.loop r) := (hba.block l hlt).trans hlw
    have hlta : l < Wa.heap.size := (Array.getElem?_eq_some_iff.1 hla).1
    refine ⟨_, run_beginRound hla hrs, ?_⟩
    have hl2 : (Wa.putObj l (.loop { r with state := .busy })).heap[l]? = some (.loop { r with state := .busy }) := World.putObj_heap_same hlta
    have hi2 : I pre O1 (Wa.putObj l (.loop { r with state := .busy })) := (hloc pre).put ((hloc pre).below hi hba) hn hb _
    have ht2 : Turn (fun k => O1 k ∨ k = l) W (Wa.putObj l (.loop { r with state := .busy })) (fun k => O1 k ∨ k = l) :=
      ⟨hba.os, hba.tape, hba.output, by have := hba.size; simpa using this, fun k hk hno => (World.putObj_heap_other (fun e => hno (.inr e))).trans (hba.block k hk), fun k hk => .inl hk⟩
    refine wpIn_mono (hbody pre x O1 a' Wa _ hx hn hax hla (Only.put _ _ _) hl2 hi2 (ht.trans ht2)) ?_
    rintro e a3 W3 hp
    cases e with
    | normal =>
      obtain ⟨O', hi3, ht3⟩ := hp
      have hl3 : W3.heap[l]? = some (.loop { r with state := .busy }) := (ht3.blk l (by simpa using hlta) hn).trans hl2
      have hn3 : ¬ O' l := ht3.free (by simpa using hlta) hn
      have hlt3 : l < W3.heap.size := (Array.getElem?_eq_some_iff.1 hl3).1
      have he := run_endRound (P := P) none hl3
      have er : ({ ({ r with state := .busy } : Loop) with state := if (none : Option Code).isNone then .ready else .done, pending := none } : Loop) = r := by
        cases r; simp at hrs hrp ⊢; exact ⟨hrs.symm, hrp.symm⟩
      rw [er] at he
      refine ⟨_, _, he, rfl, fun k => O' k ∨ k = l, ⟨O', (hloc _).put hi3 hn3 hb _, hn3, rfl, World.putObj_heap_same hlt3, ?_⟩, ?_⟩
      all_goals
        have ht4 : Turn (fun k => O1 k ∨ k = l) (Wa.putObj l (.loop { r with state := .busy })) (W3.putObj l (.loop r)) (fun k => O' k ∨ k = l) :=
          ⟨ht3.os, ht3.tape, ht3.output, by have := ht3.size; simpa using this, fun k hk hno => (World.putObj_heap_other (fun e => hno (.inr e))).trans (ht3.blk k hk (fun h => hno (.inl h))), fun k hk => hk.elim (fun h => (ht3.own k h).imp .inl id) (fun h => .inl (.inr h))⟩
      · exact (ht.trans ht2).trans ht4
      · exact ht2.trans ht4
    | ret => exact hp.elim
    | exit id => exact hp.elim
    | goto t => exact hp.elim
    | panic ch => exact hp.elim
    | outgrown => exact hp.elim
  · rintro e W' ⟨hv, O', ⟨O1, hi, hn, rfl, hlw, _⟩, ht⟩
    exact ⟨hv, O1, hi, hn, hlw, ht⟩

end Go.Proofs.YtdcbgfhkfmohiaaGreatDoor

/- The statement itself: at a function's own level, and within a round. -/
namespace Go.Proofs.YtdcbgfhkfmohiaaGreatDoor
open Go.RowKit

theorem range_outer {α : Type} {P : Program} {n m : Nat} {g : Operand} {ps : Array Tmp} {assign body : Code} {Q : Exit → Act → World → Prop} {a : Act} {w : World} {gf : Nat} {lb : Array Value} (hg : a.eval g = .func (.func gf) #[] lb) (eg : ∀ args w, (callFunc gf args).run P w = .ok (.enter gf args) w)
    {encs : α → Array Value} {xs : List α} {R : Nat → Prop} (hseq : SeqOf P gf lb encs xs R w) (hps : ∀ x, (encs x).size = ps.size) (O : Nat → Prop) (hR : ∀ k, R k → k < w.heap.size ∧ ¬ O k)
    (I : List α → (Nat → Prop) → World → Prop) (hloc : ∀ pre, Local w.heap.size (I pre)) (h0 : I [] O w) (Ax : α → Act → World → Prop)
    (hassign : ∀ l pre x O1 W (K : Act → World → Prop), pre ++ [x] <+: xs → I pre O1 W → (∀ a' W', Below W.heap.size W W' → Ax x a' W' → K a' W') →
      assign.wpIn (Fence.wide.inRound l) m P (Exit.then K (fun _ _ _ => False)) { tmps := (ps.zip (encs x)).foldl (fun t (p, v) => t.setIfInBounds p v) a.tmps, defers := [] } W)
    (hbody : ∀ l r pre x O1 a' W' W2, w.heap.size ≤ l → pre ++ [x] <+: xs → ¬ O1 l → Ax x a' W' → (∃ r0, W'.heap[l]? = some (.loop r0)) → Only l W' W2 → W2.heap[l]? = some (.loop r) → I pre O1 W2 → Turn O w W2 O1 →
      body.wpIn (Fence.wide.inRound l) m P (goesOn I (pre ++ [x]) O1 W2) a' W2)
    (hdone : ∀ D O' W', w.heap.size ≤ D → I xs O' W' → ¬ O' D → Turn O w W' O' → W'.heap[D]? = some (.deferred (some [])) → Q .normal { a with defers := { target := .collected D, args := #[] } :: a.defers } W') :
    (Code.rangeFunc g ps assign body).wpIn Fence.wide n P Q a w := by
  refine wpIn_rangeFunc ?_
  intro fn hfn
  obtain ⟨r, hr⟩ : ∃ r : Loop, r = { state := .ready, pending := none, fn, tmps := a.tmps, params := ps, assign, body, defers := w.heap.size } := ⟨_, rfl⟩
  obtain ⟨W1, hW1⟩ : ∃ W1, (w.alloc (.deferred (some []))).alloc (.loop r) = W1 := ⟨_, rfl⟩
  have hlt : ∀ k, O k → k < w.heap.size := ((hloc []).lt O w h0).2
  have hL : W1.heap[w.heap.size + 1]? = some (.loop r) := by
    rw [← hW1]; have := World.alloc_heap_new (w.alloc (.deferred (some []))) (.loop r); rwa [World.size_alloc] at this
  have hD : W1.heap[w.heap.size]? = some (.deferred (some [])) := by
    rw [← hW1]; exact (Below.heap_alloc _ _ _ (by simp)).trans (World.alloc_heap_new w _)
  have hb1 : Below w.heap.size w W1 := by rw [← hW1]; exact ((Below.refl _ w).alloc (Nat.le_refl _) _).alloc (by simp) _
  have hs1 : W1.heap.size = w.heap.size + 2 := by rw [← hW1]; simp
  have turn : ∀ {W2 O1}, Turn (fun k => O k ∨ k = w.heap.size + 1) W1 W2 (fun k => O1 k ∨ k = w.heap.size + 1) → Turn O w W2 O1 := fun h =>
    ⟨h.os.trans hb1.os, h.tape.trans hb1.tape, h.output.trans hb1.output, by have := h.size; omega, fun k hk hn => (h.blk k (by omega) (fun h2 => h2.elim hn (by omega))).trans (hb1.block k hk), fun k hk => (h.own k (.inl hk)).elim (fun h2 => h2.imp id (by omega)) (fun h2 => .inr (by omega))⟩
  refine ⟨w.heap.size + 1, [{ target := .collected w.heap.size, args := #[] }], W1, { target := .fn (.func gf) lb, args := #[.func (.yield (w.heap.size + 1)) #[] #[]] }, W1, gf, #[.func (.yield (w.heap.size + 1)) #[] #[]] ++ lb, W1, ?_, ?_, ?_, ?_, fun h => (by cases h), ?_⟩
  · rw [← hW1, hr]; exact run_enterLoop_outer _ _ _ _ _
  · simp only [resolve, hg]
    simp [go_sem]
  · intro f' _; trivial
  · simp [invoke, go_sem, eg]
  · refine (range_core hseq (n - 1) m (w.heap.size + 1) w.heap.size r hL (by rw [hr]) (by rw [hr]) trivial (by rw [hr]; exact hps) O (by omega) (fun k hk => ⟨(hR k hk).1, hb1.block k (hR k hk).1, (hR k hk).2, by have := (hR k hk).1; omega⟩) (fun h => by have := hlt _ h; omega) (by omega) I hloc ((hloc []).below h0 hb1) Ax ?_ ?_).mono ?_
    · intro pre x O1 W K hx hi hK
      rw [hr]
      exact hassign _ pre x O1 W K hx hi hK
    · intro pre x O1 a' W' W2 h1 h2 h3 h3' h4 h5 h6 h7
      have := hbody (w.heap.size + 1) _ pre x O1 a' W' W2 (by omega) h1 h2 h3 ⟨_, h3'⟩ h4 h5 h6 (turn h7)
      rw [hr]
      exact this
    · rintro e W2 ⟨⟨v, rfl⟩, O', hi, hn, hl2, ht⟩
      refine ⟨none, _, by have := run_endLoop (P := P) hl2 (by rw [hr]; simp); rw [hr] at this; exact this, ?_⟩
      have hlt2 : w.heap.size + 1 < W2.heap.size := (Array.getElem?_eq_some_iff.1 hl2).1
      have hnD : ¬ (O' w.heap.size) := fun h => by
        rcases ht.own _ (.inl h) with (h1 | h1) | h1
        · have := hlt _ h1; omega
        · omega
        · omega
      have hk2 : W2.heap[w.heap.size]? = some (.deferred (some [])) := (ht.blk _ (by omega) (fun h => h.elim (fun h1 => by have := hlt _ h1; omega) (by omega))).trans hD
      have t2 := turn ht
      refine hdone w.heap.size O' _ (Nat.le_refl _) ((hloc xs).put hi hn (by omega) _) hnD ?_ ((World.putObj_heap_other (by omega)).trans hk2)
      exact ⟨t2.os, t2.tape, t2.output, by have := t2.size; simpa using this, fun k hk hno => (World.putObj_heap_other (by omega)).trans (t2.blk k hk hno), t2.own⟩

theorem range_inner {α : Type} {P : Program} {n m : Nat} {g : Operand} {ps : Array Tmp} {assign body : Code} {Q : Exit → Act → World → Prop} {a : Act} {w : World} {l₀ : Nat} {r₀ : Loop} (hl₀ : w.heap[l₀]? = some (.loop r₀)) {gf : Nat} {lb : Array Value} (hg : a.eval g = .func (.func gf) #[] lb) (eg : ∀ args w, (callFunc gf args).run P w = .ok (.enter gf args) w)
    {encs : α → Array Value} {xs : List α} {R : Nat → Prop} (hseq : SeqOf P gf lb encs xs R w) (hps : ∀ x, (encs x).size = ps.size) (O : Nat → Prop) (hR : ∀ k, R k → k < w.heap.size ∧ ¬ O k)
    (I : List α → (Nat → Prop) → World → Prop) (hloc : ∀ pre, Local w.heap.size (I pre)) (h0 : I [] O w) (Ax : α → Act → World → Prop)
    (hassign : ∀ l pre x O1 W (K : Act → World → Prop), pre ++ [x] <+: xs → I pre O1 W → (∀ a' W', Below W.heap.size W W' → Ax x a' W' → K a' W') →
      assign.wpIn (Fence.wide.inRound l) m P (Exit.then K (fun _ _ _ => False)) { tmps := (ps.zip (encs x)).foldl (fun t (p, v) => t.setIfInBounds p v) a.tmps, defers := [] } W)
    (hbody : ∀ l r pre x O1 a' W' W2, w.heap.size ≤ l → pre ++ [x] <+: xs → ¬ O1 l → Ax x a' W' → (∃ r0, W'.heap[l]? = some (.loop r0)) → Only l W' W2 → W2.heap[l]? = some (.loop r) → I pre O1 W2 → Turn O w W2 O1 →
      body.wpIn (Fence.wide.inRound l) m P (goesOn I (pre ++ [x]) O1 W2) a' W2)
    (hdone : ∀ O' W', I xs O' W' → Turn O w W' O' → Q .normal a W') :
    (Code.rangeFunc g ps assign body).wpIn (Fence.wide.inRound l₀) n P Q a w := by
  refine wpIn_rangeFunc ?_
  intro fn hfn
  obtain ⟨r, hr⟩ : ∃ r : Loop, r = { state := .ready, pending := none, fn, tmps := a.tmps, params := ps, assign, body, defers := r₀.defers } := ⟨_, rfl⟩
  obtain ⟨W1, hW1⟩ : ∃ W1, w.alloc (.loop r) = W1 := ⟨_, rfl⟩
  have hlt : ∀ k, O k → k < w.heap.size := ((hloc []).lt O w h0).2
  have hL : W1.heap[w.heap.size]? = some (.loop r) := by rw [← hW1]; exact World.alloc_heap_new w _
  have hb1 : Below w.heap.size w W1 := by rw [← hW1]; exact (Below.refl _ w).alloc (Nat.le_refl _) _
  have hs1 : W1.heap.size = w.heap.size + 1 := by rw [← hW1]; simp
  have turn : ∀ {W2 O1}, Turn (fun k => O k ∨ k = w.heap.size) W1 W2 (fun k => O1 k ∨ k = w.heap.size) → Turn O w W2 O1 := fun h =>
    ⟨h.os.trans hb1.os, h.tape.trans hb1.tape, h.output.trans hb1.output, by have := h.size; omega, fun k hk hn => (h.blk k (by omega) (fun h2 => h2.elim hn (by omega))).trans (hb1.block k hk), fun k hk => (h.own k (.inl hk)).elim (fun h2 => h2.imp id (by omega)) (fun h2 => .inr (by omega))⟩
  refine ⟨w.heap.size, [], W1, { target := .fn (.func gf) lb, args := #[.func (.yield w.heap.size) #[] #[]] }, W1, gf, #[.func (.yield w.heap.size) #[] #[]] ++ lb, W1, ?_, ?_, ?_, ?_, fun h => (by cases h), ?_⟩
  · rw [← hW1, hr]; exact run_enterLoop_inner hl₀ _ _ _ _ _
  · simp only [resolve, hg]
    simp [go_sem]
  · intro f' _; trivial
  · simp [invoke, go_sem, eg]
  · refine CallsIn.mono (range_core hseq (n - 1) m w.heap.size w.heap.size r hL (by rw [hr]) (by rw [hr]) trivial (by rw [hr]; exact hps) O (by omega) (fun k hk => ⟨(hR k hk).1, hb1.block k (hR k hk).1, (hR k hk).2, by have := (hR k hk).1; omega⟩) (fun h => by have := hlt _ h; omega) (Nat.le_refl _) I hloc ((hloc []).below h0 hb1) Ax ?_ ?_) ?_
    · intro pre x O1 W K hx hi hK
      rw [hr]
      exact hassign _ pre x O1 W K hx hi hK
    · intro pre x O1 a' W' W2 h1 h2 h3 h3' h4 h5 h6 h7
      have := hbody w.heap.size _ pre x O1 a' W' W2 (Nat.le_refl _) h1 h2 h3 ⟨_, h3'⟩ h4 h5 h6 (turn h7)
      rw [hr]
      exact this
    · rintro e W2 ⟨⟨v, rfl⟩, O', hi, hn, hl2, ht⟩
      refine ⟨none, _, by have := run_endLoop (P := P) hl2 (by rw [hr]; simp); rw [hr] at this; exact this, ?_⟩
      have t2 := turn ht
      refine hdone O' _ ((hloc xs).put hi hn (Nat.le_refl _) _) ?_
      exact ⟨t2.os, t2.tape, t2.output, by have := t2.size; simpa using this, fun k hk hno => (World.putObj_heap_other (by omega)).trans (t2.blk k hk hno), t2.own⟩

end Go.Proofs.YtdcbgfhkfmohiaaGreatDoor

/- Small functions of the program that Diff reaches: join, markOf, Compare. -/
namespace Go.Proofs.YtdcbgfhkfmohiaaGreatDoor
open Go.RowKit

def joinS (p x : Str) : Str := if p = [] then x else p ++ 47 :: x

set_option maxHeartbeats 1000000 in
theorem join_any (p x : Str) (w : World) (hp : p.length ≤ 1000) (hx : x.length ≤ 1000) :
    Calls Tryz.prog 72 #[SV p, SV x] w fun e w' => e = .returned (SV (joinS p x)) ∧ w' = w := by
  have hap := app_list
  by_cases h : p = []
  · subst h
    go_enter Tryz.func72, Tryz.ntmps72
    go_wp2
    go_ret
    exact ⟨rfl, rfl⟩
  · have hb : (p == []) = false := by simp [h]
    have R : Hid (joinS p x = p ++ 47 :: x) := by rw [Hid, joinS, if_neg h]
    go_enter Tryz.func72, Tryz.ntmps72
    go_wp2
    go_ret
    refine ⟨?_, rfl⟩
    rw [R.out]; rfl

set_option maxRecDepth 100000 in
theorem cmp_any (a b : Str) (w : World) : Calls Tryz.prog 169 #[SV a, SV b] w fun e w' => e = .returned (.int .i64 (Lib.compareBytes a b)) ∧ w' = w := by
  go_enter Tryz.func169, Tryz.ntmps169
  go_wp2
  rw [run_callFunc_extern Tryz.func186 (by kernel_rfl) (by kernel_rfl) (by kernel_rfl) (e := Extern.BytealgCompare.compare) (by kernel_rfl), Lib.run_compareString]
  simp only [Result.andThen]
  rw [Oper.upon_value]
  go_wp2
  go_ret
  exact ⟨rfl, rfl⟩
theorem compare_any (a b : Str) (w : World) : Calls Tryz.prog 142 #[SV a, SV b] w fun e w' => e = .returned (.int .i64 (Lib.compareBytes a b)) ∧ w' = w := by
  go_enter Tryz.func142, Tryz.ntmps142
  go_wp2_with (go_at_call 169; refine (cmp_any _ _ _).mono ?_; rintro e w' ⟨rfl, rfl⟩)
  go_ret
  exact ⟨rfl, rfl⟩

def markN (a b : Option Nat) : Nat := if a = b then 0 else if b = none then 45 else if a = none then 43 else 126
abbrev ptrO (a : Option Nat) : Value := .pointer (a.map fun b => ⟨b, 0, none⟩)

theorem ptr_nil (w : World) (b : Nat) : (binOp .eql 131 (.pointer none) (ptrV b)).run Tryz.prog w = .ok (.bool false) w := by
  have h : ∀ d : Nat, (Op.equalIn (d + 1) 131 (.pointer none) (ptrV b)).run Tryz.prog w = .ok false w := fun d => by
    simp [Op.equalIn, run_underlying Tryz.underlying131, sizeOf, typeInfo]
  simp only [binOp]
  simp [Op.equal, Op.maxDepth, h 9999]
theorem ptr_same (w : World) (b : Nat) : (binOp .eql 131 (ptrV b) (ptrV b)).run Tryz.prog w = .ok (.bool true) w := by
  obtain ⟨j, hj, _⟩ := info_size (P := Tryz.prog) (t := 135) (n := 2) (by kernel_rfl)
  exact run_eql_ptr_same w _ Tryz.underlying131 hj
theorem ptr_ne {w : World} {b b' : Nat} {c c' : Array Value} (hne : b ≠ b') (hb : w.heap[b]? = some (.cells c 135 (0, 0))) (hb' : w.heap[b']? = some (.cells c' 135 (0, 0))) : (binOp .eql 131 (ptrV b) (ptrV b')).run Tryz.prog w = .ok (.bool false) w := by
  obtain ⟨j, hj, hs⟩ := info_size (P := Tryz.prog) (t := 135) (n := 2) (by kernel_rfl)
  exact run_eql_ptr_other w Tryz.underlying131 hj (by omega) (fun h => hne (congrArg Addr.block h)) hb hb'

set_option maxHeartbeats 1000000 in
set_option maxRecDepth 100000 in
theorem markOf_any (a b : Option Nat) (w : World) (ha : ∀ k, a = some k → ∃ c, w.heap[k]? = some (.cells c 135 (0, 0))) (hb : ∀ k, b = some k → ∃ c, w.heap[k]? = some (.cells c 135 (0, 0))) :
    Calls Tryz.prog 74 #[ptrO a, ptrO b] w fun e w' => e = .returned (.int .u8 (markN a b)) ∧ w' = w := by
  cases a with
  | none =>
    cases b with
    | none =>
      simp only [ptrO, Option.map_none]
      go_enter Tryz.func74, Tryz.ntmps74
      go_wp2
      go_ret
      exact ⟨rfl, rfl⟩
    | some b =>
      have h1 := ptr_nil w b
      simp only [ptrO, Option.map_none, Option.map_some]
      go_enter Tryz.func74, Tryz.ntmps74
      go_wp2
      go_ret
      exact ⟨rfl, rfl⟩
  | some a =>
    cases b with
    | none =>
      simp only [ptrO, Option.map_none, Option.map_some]
      go_enter Tryz.func74, Tryz.ntmps74
      go_wp2
      go_ret
      exact ⟨rfl, rfl⟩
    | some b =>
      simp only [ptrO, Option.map_some]
      by_cases e : a = b
      · subst e
        have h1 := ptr_same w a
        have R : Hid (markN (some a) (some a) = 0) := by simp [Hid, markN]
        go_enter Tryz.func74, Tryz.ntmps74
        go_wp2
        go_ret
        exact ⟨by rw [R.out]; rfl, rfl⟩
      · obtain ⟨c, hc⟩ := ha a rfl
        obtain ⟨c', hc'⟩ := hb b rfl
        have h1 := ptr_ne e hc hc'
        have R : Hid (markN (some a) (some b) = 126) := by simp [Hid, markN, e]
        clear ha hb hc hc'
        go_enter Tryz.func74, Tryz.ntmps74
        go_wp2
        go_ret
        exact ⟨by rw [R.out]; rfl, rfl⟩

set_option maxRecDepth 100000 in
theorem apart_file (b : Nat) (w : World) : Calls Tryz.prog 73 #[fileV b] w fun e w' => e = .returned (.tuple #[ptrV b, ptrV w.heap.size]) ∧ w' = w.alloc (.cells (listCells []).toArray 147) := by
  have h1 := Tryz.assertFile b
  go_enter Tryz.func73, Tryz.ntmps73
  go_wp2
  go_ret2
  exact ⟨rfl, rfl⟩
set_option maxRecDepth 100000 in
theorem apart_nil (w : World) : Calls Tryz.prog 73 #[.nilIface] w fun e w' => e = .returned (.tuple #[.pointer none, ptrV w.heap.size]) ∧ w' = w.alloc (.cells (listCells []).toArray 147) := by
  have h1 := Tryz.assertNil1
  have h2 := Tryz.assertNil2
  go_enter Tryz.func73, Tryz.ntmps73
  go_wp2
  go_ret2
  exact ⟨rfl, rfl⟩
set_option maxRecDepth 100000 in
theorem apart_dir (b : Nat) (w : World) : Calls Tryz.prog 73 #[dirV b] w fun e w' => e = .returned (.tuple #[.pointer none, .pointer (some ⟨b, 1, none⟩)]) ∧ Below w.heap.size w w' := by
  have h1 := Tryz.assertDir b
  have h2 := Tryz.assertDirNo b
  go_enter Tryz.func73, Tryz.ntmps73
  go_wp2
  go_quiet (fail)
  go_wp2
  go_ret2
  exact ⟨rfl, below_drewN (Below.refl _ _) _⟩

end Go.Proofs.YtdcbgfhkfmohiaaGreatDoor
