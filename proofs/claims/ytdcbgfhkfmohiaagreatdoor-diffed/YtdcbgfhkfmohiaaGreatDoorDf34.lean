/- For every script and every number handed to Diffed, the call returns true and each argument reads afterwards as it read before; conditions: the two tables of unicode/utf8 that the row lists stand as the program's text lays them when the call begins, and each string and slice of the arguments is within the bound of memory that the row states. -/
import Derived.Test.YtdcbgfhkfmohiaaGreatDoorDf33
import Derived.Deep.DeepHandedRow
import Derived.Lay
namespace Go.Proofs.YtdcbgfhkfmohiaaGreatDoor
open Go.ChangeShapes Go.WideShapes Go.ChangeAt Go.RowKit Go.Deep

set_option maxRecDepth 100000 in
/-- What the walk gives, for every argument and every world. -/
theorem diffedContract (H : Type) (enc : TypeId × Value → H) (W : World) (base : Nat) (args : Array Value) (ds gs : List (DataW H)) (before : List MemPlace)
    (hval : ∀ (j : Nat) t v, Tryz.f8.params[j]? = some t → args[j]? = some v → Value.okWide Tryz.prog W .any base t v)
    (hW : DataW.Whole enc Tryz.prog Tryz.f8.params.toList Rows.diffedSpec.vars false W args.toList ds gs before)
    (hsz : (DataW.weightsEach Tryz.prog (Tryz.f8.params.toList ++ (OpenSpec.ofChange Rows.diffedSpec).bare.plain.varTypes Tryz.prog) (ds ++ gs)).all (· ≤ reachBytes) = true) (hmx : MaxOk W) :
    Calls Tryz.prog 8 args W fun e W' => ∃ v, e = .returned v ∧ Rows.diffedSpec.post enc Tryz.prog Tryz.f8 false true false false W args v W' := by
  have hW' := hW
  obtain ⟨p, q, hA0, hV, rfl, hfz, hnd⟩ := hW
  have hA : DataW.TrodAll enc Tryz.prog W 0 (fun _ => true) true Tryz.f8.params.toList args.toList ds p := hA0
  rw [Tryz.params8] at hA hval
  obtain ⟨v0, v1, v2, v3, d0, d1, d2, d3, p0, p1, p2, p3, rfl, rfl, rfl, h0, h1, h2, h3⟩ := trodAll_four hA
  obtain ⟨rfl, rfl⟩ := trodVars_none hV
  have hsz' : (DataW.weightsEach Tryz.prog [25, 3, 3, 3] [d0, d1, d2, d3]).all (· ≤ reachBytes) = true := hsz
  obtain ⟨n0, O0, a0, b0, c0⟩ := open_steps (j := 0) (hval 0 25 v0 rfl rfl) h0 hsz' rfl rfl
  obtain ⟨n1, rfl, rfl, _, a1'⟩ := open_int Tryz.underlying3 (hval 1 3 v1 rfl rfl) h1
  have a1 := wf_inK a1'
  obtain ⟨n2, rfl, rfl, _, a2'⟩ := open_int Tryz.underlying3 (hval 2 3 v2 rfl rfl) h2
  have a2 := wf_inK a2'
  obtain ⟨n3, rfl, rfl, _, a3'⟩ := open_int Tryz.underlying3 (hval 3 3 v3 rfl rfl) h3
  have a3 := wf_inK a3'
  clear hA0 hsz
  simp only [List.append_nil] at hW'
  have hlt : ∀ x ∈ p0 ++ p1 ++ p2 ++ p3, x.block < W.heap.size := fun x hx => by simpa using hW'.lt x hx
  have walk : Calls Tryz.prog 8 #[v0, .int .i64 n1, .int .i64 n2, .int .i64 n3] W fun e w' => KBool W true e w' := kDiffed_any v0 n0 O0 n1 n2 n3 W a0 b0 c0 a1 a2 a3 hmx
  refine walk.mono fun e W' ⟨he, hb⟩ => ?_
  subst he
  exact ⟨_, rfl, ⟨_, _, _, [], _, [], hW', trodAll_mk1 (shut_bool Tryz.underlying4 true), trodAll_mk4 (Below.trod Tryz.laidOutK (by kernel_rfl) (of_decide_eq_true (by kernel_rfl)) h0 hb (fun x hx => hlt x (by simp [hx]))) (Below.trod Tryz.laidOutK (by kernel_rfl) (of_decide_eq_true (by kernel_rfl)) h1 hb (fun x hx => hlt x (by simp [hx]))) (Below.trod Tryz.laidOutK (by kernel_rfl) (of_decide_eq_true (by kernel_rfl)) h2 hb (fun x hx => hlt x (by simp [hx]))) (Below.trod Tryz.laidOutK (by kernel_rfl) (of_decide_eq_true (by kernel_rfl)) h3 hb (fun x hx => hlt x (by simp [hx]))), rfl, hb.frame _, fun h => by cases h⟩⟩

theorem own6 : ownKnob Tryz.prog.godebug = none := by kernel_rfl

/-- The witness: no script, no number. -/
def witArgs6 : Array Value := #[.slice none 0 0, .int .i64 0, .int .i64 0, .int .i64 0]

theorem laid_met6 (os : Os) : laidMetH Tryz.prog Rows.diffedRow.laid ((World.laidAll Tryz.prog os Rows.diffedRow.laid).forCall (fun _ _ => 0) ⟨#[], witArgs6, []⟩).memory := by
  rw [MakeChecks.laidMetH_plain _ _ _ (by kernel_rfl)]
  exact laidMet_of_run' 8 (by kernel_rfl) (by kernel_rfl)
theorem wit_reads6 (os : Os) {H : Type} (enc : TypeId × Value → H) : ∃ places, DataW.whole enc Tryz.prog ((World.laidAll Tryz.prog os Rows.diffedRow.laid).forCall (fun _ _ => 0) ⟨#[], witArgs6, []⟩).memory Tryz.f8.params.toList Rows.diffedSpec.vars false witArgs6.toList 8 = some ([.nil, .lit (.int .i64 0), .lit (.int .i64 0), .lit (.int .i64 0)], [], places) :=
  ⟨[], by kernel_rfl⟩

set_option maxRecDepth 100000 in
theorem diffedLifted (os : Os) (started : os.Started) (H : Type) (enc : TypeId × Value → H) (F : Stop.Interp) :
    ReturnsInHanded {} Tryz.checked os 8 .any ((OpenSpec.ofChange Rows.diffedSpec).preRow enc Tryz.prog Tryz.f8 Rows.diffedRow.domain false Rows.diffedRow.laid) (((OpenSpec.ofChange Rows.diffedSpec).at F).post enc Tryz.prog Tryz.f8 false true false false) := by
  obtain ⟨places, hx⟩ := wit_reads6 os enc
  refine returnsInHanded_of_row (C := Tryz.checked) (s := OpenSpec.ofChange Rows.diffedSpec) own6 started (by kernel_rfl) Tryz.func8
    (witness_row_at (enc := enc) (C := Tryz.checked) false (World.laidAll Tryz.prog os Rows.diffedRow.laid) witArgs6 (World.laidAll_os _ _ _) (by kernel_rfl) (by kernel_rfl) (by kernel_rfl)
      (OpenSpec.preRow_of_cond 8 hx (by kernel_rfl) (fun k hk => by cases hk) (by kernel_rfl) (laid_met6 os))) ?_
  intro W base args ds gs before hval hW _ _ hsz hL hsh _
  exact diffedContract H enc W base args ds gs before hval hW hsz (maxK_shaped hsh)

theorem diffedSaid : Rows.DiffedSaid :=
  OpenClaim.holds_of_cond 8 Tryz.f8 rfl rfl rfl rfl rfl rfl rfl ⟨rfl, rfl, rfl, rfl, rfl⟩ rfl rfl rfl rfl rfl (by kernel_rfl) Tryz.func8 (by kernel_rfl)
    (of_decide_eq_true (by kernel_rfl)) (by unfold Func.isWrapper; first | (rw [if_pos (by decide +kernel)]; kernel_rfl) | (rw [if_neg (by decide +kernel)]; exact ⟨rfl, rfl⟩))
    (fun os started H enc _ F => by rw [OpenClaim.pre_eq_preRow]; exact diffedLifted os started H enc F)

theorem diffedPlain (f : FuncId) (fn : Func) (hf : Tryz.pinned.checked.prog.funcNamed "canopy/canopykeep.Diffed" = some f) (hfn : Tryz.pinned.checked.prog.funcs[f]? = some fn) :
    true = Tryz.pinned.checked.prog.looks [] ∧ ∀ (j : Nat) t, fn.params[j]? = some t → Tryz.pinned.checked.prog.wantsStandIn t = false := by
  obtain rfl : f = 8 := Option.some.inj ((show Tryz.prog.funcNamed "canopy/canopykeep.Diffed" = some 8 by kernel_rfl).symm.trans hf) |>.symm
  obtain rfl : fn = Tryz.f8 := (Option.some.inj (Tryz.func8.symm.trans hfn)).symm
  refine ⟨by kernel_rfl, fun j t ht => ?_⟩
  rw [Tryz.params8] at ht
  have hm : t = 25 ∨ t = 3 := by simpa using Array.mem_of_getElem? ht
  rcases hm with rfl | rfl
  · exact (show Tryz.prog.wantsStandIn 25 = false by kernel_rfl)
  · exact (show Tryz.prog.wantsStandIn 3 = false by kernel_rfl)

/-- The card of Diffed. -/
theorem diffed_card : Rows.DiffedCardSaid :=
  Claim7.holds_tied_plain_at .later [] _ _ _ _ diffedSaid (fun _ h => by cases h) (by kernel_rfl) (fun _ h => by cases h) diffed_row_tie rfl ⟨rfl, rfl⟩ (by kernel_rfl) rfl diffedPlain (by kernel_rfl)

end Go.Proofs.YtdcbgfhkfmohiaaGreatDoor
