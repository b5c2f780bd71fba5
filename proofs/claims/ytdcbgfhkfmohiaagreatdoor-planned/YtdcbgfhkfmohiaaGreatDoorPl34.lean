/- For every script and every number handed to Planned, the call returns true and each argument reads afterwards as it read before; conditions: the two tables of unicode/utf8 that the row lists stand as the program's text lays them when the call begins, and each string and slice of the arguments is within the bound of memory that the row states. -/
import Derived.Test.YtdcbgfhkfmohiaaGreatDoorPl33
import Derived.Deep.DeepHandedRow
import Derived.Lay
namespace Go.Proofs.YtdcbgfhkfmohiaaGreatDoor
open Go.ChangeShapes Go.WideShapes Go.ChangeAt Go.RowKit Go.Deep

set_option maxRecDepth 100000 in
/-- What the walk gives, for every argument and every world. -/
theorem plannedContract (H : Type) (enc : TypeId × Value → H) (W : World) (base : Nat) (args : Array Value) (ds gs : List (DataW H)) (before : List MemPlace)
    (hval : ∀ (j : Nat) t v, Tryz.f10.params[j]? = some t → args[j]? = some v → Value.okWide Tryz.prog W .any base t v)
    (hW : DataW.Whole enc Tryz.prog Tryz.f10.params.toList Rows.plannedSpec.vars false W args.toList ds gs before)
    (hsz : (DataW.weightsEach Tryz.prog (Tryz.f10.params.toList ++ (OpenSpec.ofChange Rows.plannedSpec).bare.plain.varTypes Tryz.prog) (ds ++ gs)).all (· ≤ reachBytes) = true) (hmx : MaxOk W) :
    Calls Tryz.prog 10 args W fun e W' => ∃ v, e = .returned v ∧ Rows.plannedSpec.post enc Tryz.prog Tryz.f10 false true false false W args v W' := by
  have hW' := hW
  obtain ⟨p, q, hA0, hV, rfl, hfz, hnd⟩ := hW
  have hA : DataW.TrodAll enc Tryz.prog W 0 (fun _ => true) true Tryz.f10.params.toList args.toList ds p := hA0
  rw [Tryz.params10] at hA hval
  obtain ⟨v0, v1, v2, d0, d1, d2, p0, p1, p2, rfl, rfl, rfl, h0, h1, h2⟩ := trodAll_three hA
  obtain ⟨rfl, rfl⟩ := trodVars_none hV
  have hsz' : (DataW.weightsEach Tryz.prog [25, 26, 26] [d0, d1, d2]).all (· ≤ reachBytes) = true := hsz
  obtain ⟨n0, O0, a0, b0, c0⟩ := open_steps (j := 0) (hval 0 25 v0 rfl rfl) h0 hsz' rfl rfl
  obtain ⟨n1, O1, a1, b1, c1⟩ := open_nums (j := 1) (hval 1 26 v1 rfl rfl) h1 hsz' rfl rfl
  obtain ⟨n2, O2, a2, b2, c2⟩ := open_nums (j := 2) (hval 2 26 v2 rfl rfl) h2 hsz' rfl rfl
  clear hA0 hsz
  simp only [List.append_nil] at hW'
  have hlt : ∀ x ∈ p0 ++ p1 ++ p2, x.block < W.heap.size := fun x hx => by simpa using hW'.lt x hx
  have walk : Calls Tryz.prog 10 #[v0, v1, v2] W fun e w' => KBool W true e w' := kPlanned_any v0 n0 O0 v1 n1 O1 v2 n2 O2 W a0 b0 c0 a1 b1 c1 a2 b2 c2 hmx
  refine walk.mono fun e W' ⟨he, hb⟩ => ?_
  subst he
  exact ⟨_, rfl, ⟨_, _, _, [], _, [], hW', trodAll_mk1 (shut_bool Tryz.underlying4 true), trodAll_mk3 (Below.trod Tryz.laidOutK (by kernel_rfl) (of_decide_eq_true (by kernel_rfl)) h0 hb (fun x hx => hlt x (by simp [hx]))) (Below.trod Tryz.laidOutK (by kernel_rfl) (of_decide_eq_true (by kernel_rfl)) h1 hb (fun x hx => hlt x (by simp [hx]))) (Below.trod Tryz.laidOutK (by kernel_rfl) (of_decide_eq_true (by kernel_rfl)) h2 hb (fun x hx => hlt x (by simp [hx]))), rfl, hb.frame _, fun h => by cases h⟩⟩

theorem own7 : ownKnob Tryz.prog.godebug = none := by kernel_rfl

/-- The witness: no script, no number. -/
def witArgs7 : Array Value := #[.slice none 0 0, .slice none 0 0, .slice none 0 0]

theorem laid_met7 (os : Os) : laidMetH Tryz.prog Rows.plannedRow.laid ((World.laidAll Tryz.prog os Rows.plannedRow.laid).forCall (fun _ _ => 0) ⟨#[], witArgs7, []⟩).memory := by
  rw [MakeChecks.laidMetH_plain _ _ _ (by kernel_rfl)]
  exact laidMet_of_run' 8 (by kernel_rfl) (by kernel_rfl)
theorem wit_reads7 (os : Os) {H : Type} (enc : TypeId × Value → H) : ∃ places, DataW.whole enc Tryz.prog ((World.laidAll Tryz.prog os Rows.plannedRow.laid).forCall (fun _ _ => 0) ⟨#[], witArgs7, []⟩).memory Tryz.f10.params.toList Rows.plannedSpec.vars false witArgs7.toList 8 = some ([.nil, .nil, .nil], [], places) :=
  ⟨[], by kernel_rfl⟩

set_option maxRecDepth 100000 in
theorem plannedLifted (os : Os) (started : os.Started) (H : Type) (enc : TypeId × Value → H) (F : Stop.Interp) :
    ReturnsInHanded {} Tryz.checked os 10 .any ((OpenSpec.ofChange Rows.plannedSpec).preRow enc Tryz.prog Tryz.f10 Rows.plannedRow.domain false Rows.plannedRow.laid) (((OpenSpec.ofChange Rows.plannedSpec).at F).post enc Tryz.prog Tryz.f10 false true false false) := by
  obtain ⟨places, hx⟩ := wit_reads7 os enc
  refine returnsInHanded_of_row (C := Tryz.checked) (s := OpenSpec.ofChange Rows.plannedSpec) own7 started (by kernel_rfl) Tryz.func10
    (witness_row_at (enc := enc) (C := Tryz.checked) false (World.laidAll Tryz.prog os Rows.plannedRow.laid) witArgs7 (World.laidAll_os _ _ _) (by kernel_rfl) (by kernel_rfl) (by kernel_rfl)
      (OpenSpec.preRow_of_cond 8 hx (by kernel_rfl) (fun k hk => by cases hk) (by kernel_rfl) (laid_met7 os))) ?_
  intro W base args ds gs before hval hW _ _ hsz hL hsh _
  exact plannedContract H enc W base args ds gs before hval hW hsz (maxK_shaped hsh)

theorem plannedSaid : Rows.PlannedSaid :=
  OpenClaim.holds_of_cond 10 Tryz.f10 rfl rfl rfl rfl rfl rfl rfl ⟨rfl, rfl, rfl, rfl, rfl⟩ rfl rfl rfl rfl rfl (by kernel_rfl) Tryz.func10 (by kernel_rfl)
    (of_decide_eq_true (by kernel_rfl)) (by unfold Func.isWrapper; first | (rw [if_pos (by decide +kernel)]; kernel_rfl) | (rw [if_neg (by decide +kernel)]; exact ⟨rfl, rfl⟩))
    (fun os started H enc _ F => by rw [OpenClaim.pre_eq_preRow]; exact plannedLifted os started H enc F)

theorem plannedPlain (f : FuncId) (fn : Func) (hf : Tryz.pinned.checked.prog.funcNamed "canopy/canopykeep.Planned" = some f) (hfn : Tryz.pinned.checked.prog.funcs[f]? = some fn) :
    true = Tryz.pinned.checked.prog.looks [] ∧ ∀ (j : Nat) t, fn.params[j]? = some t → Tryz.pinned.checked.prog.wantsStandIn t = false := by
  obtain rfl : f = 10 := Option.some.inj ((show Tryz.prog.funcNamed "canopy/canopykeep.Planned" = some 10 by kernel_rfl).symm.trans hf) |>.symm
  obtain rfl : fn = Tryz.f10 := (Option.some.inj (Tryz.func10.symm.trans hfn)).symm
  refine ⟨by kernel_rfl, fun j t ht => ?_⟩
  rw [Tryz.params10] at ht
  have hm : t = 25 ∨ t = 26 := by simpa using Array.mem_of_getElem? ht
  rcases hm with rfl | rfl
  · exact (show Tryz.prog.wantsStandIn 25 = false by kernel_rfl)
  · exact (show Tryz.prog.wantsStandIn 26 = false by kernel_rfl)

/-- The card of Planned. -/
theorem planned_card : Rows.PlannedCardSaid :=
  Claim7.holds_tied_plain_at .later [] _ _ _ _ plannedSaid (fun _ h => by cases h) (by kernel_rfl) (fun _ h => by cases h) planned_row_tie rfl ⟨rfl, rfl⟩ (by kernel_rfl) rfl plannedPlain (by kernel_rfl)

end Go.Proofs.YtdcbgfhkfmohiaaGreatDoor
