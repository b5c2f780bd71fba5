/- strings.Builder: copyCheck, WriteByte, WriteString: just its own block and its row turn. -/
import Derived.Test.YtdcbgfhkfmohiaaGreatDoorKb18
import Derived.Lib.UnsafeStr
namespace Go.Proofs.YtdcbgfhkfmohiaaGreatDoor
open Go.RowKit

theorem Tryz.sizeBuilder : (Tryz.prog.info? 94).map (·.size) = some 2 := by kernel_rfl
theorem Tryz.liesBuilder : liesAt Tryz.prog Tryz.prog.depth 94 (2 / Tryz.prog.cellsOf 94) 0 94 1 = true := by kernel_rfl
theorem Tryz.infoByte : (Tryz.prog.info? 5).map (fun i => (i.zero, i.size, i.bytes)) = some (some (.int .u8 0), 1, 1) := by kernel_rfl
theorem Tryz.cellsByte : Tryz.prog.cellsOf 5 = 1 := by kernel_rfl

/-- The builder in block b holds the bytes l; it owns its block and its row. -/
def Bld (b : Nat) (l : Str) (O : Nat → Prop) (w : World) : Prop :=
  ∃ p v, w.heap[b]? = some (.cells #[p, v] 94 (0, 0)) ∧ (p = .pointer none ∨ p = .pointer (some ⟨b, 0, none⟩)) ∧ w.ownsRow b 5 1 v l.length (Lib.byteCells l) ∧ (l = [] → v = .slice none 0 0) ∧ O = (fun k => k = b ∨ v.ownBlock = some k)

theorem Bld.lt {b : Nat} {l : Str} {O : Nat → Prop} {w : World} (h : Bld b l O w) : ∀ k, O k → b ≤ k ∧ k < w.heap.size := by
  obtain ⟨p, v, hb, _, hown, _, rfl⟩ := h
  rintro k (rfl | hk)
  · exact ⟨Nat.le_refl _, (Array.getElem?_eq_some_iff.1 hb).1⟩
  · exact hown.lt k hk

theorem Bld.keep {b : Nat} {l : Str} {O : Nat → Prop} {w w' : World} (h : Bld b l O w) (hk : ∀ k, O k → w'.heap[k]? = w.heap[k]?) : Bld b l O w' := by
  obtain ⟨p, v, hb, hp, hown, h0, rfl⟩ := h
  refine ⟨p, v, (hk b (.inl rfl)).trans hb, hp, ⟨hown.1, ?_⟩, h0, rfl⟩
  rcases hown.2 with hn | ⟨g, cap, cur, hv, hbg, hg, rest⟩
  · exact .inl hn
  · exact .inr ⟨g, cap, cur, hv, hbg, (hk g (.inr (by rw [hv]; rfl))).trans hg, rest⟩

theorem Bld.local (B b : Nat) (l : Str) (hB : B ≤ b) : Local B fun O w => Bld b l O w :=
  ⟨fun O W W' h _ _ _ _ hk => h.keep fun k ho => hk k (.inl ho), fun O W h => ⟨by have := h.lt b (by obtain ⟨p, v, _, _, _, _, rfl⟩ := h; exact .inl rfl); omega, fun k hk => (h.lt k hk).2⟩⟩

/-- The zero Builder. -/
theorem Bld.new {b : Nat} {w : World} (hb : w.heap[b]? = some (.cells #[.pointer none, .slice none 0 0] 94 (0, 0))) : Bld b [] (fun k => k = b) w :=
  ⟨_, _, hb, .inl rfl, World.ownsRow_nil w b 5 1, fun _ => rfl, by simp [Value.ownBlock]⟩

set_option maxHeartbeats 1000000 in
set_option maxRecDepth 100000 in
theorem copyCheck_any (b : Nat) (p v : Value) (w : World) (hb : w.heap[b]? = some (.cells #[p, v] 94 (0, 0))) (hp : p = .pointer none ∨ p = .pointer (some ⟨b, 0, none⟩)) :
    Calls Tryz.prog 76 #[.pointer (some ⟨b, 0, none⟩)] w fun e w' => e = .returned (.tuple #[]) ∧ ((p = .pointer none ∧ w' = w.setCell ⟨b, 0, none⟩ (.pointer (some ⟨b, 0, none⟩))) ∨ (p = .pointer (some ⟨b, 0, none⟩) ∧ w' = w)) := by
  obtain ⟨j, hj, hjs⟩ := Option.map_eq_some_iff.1 Tryz.sizeBuilder
  have hc : w.cell? ⟨b, 0, none⟩ = some p := by rw [Lib.cell_of_heap hb]; rfl
  rcases hp with rfl | rfl
  · have hsh : w.shape? b = some (94, 2) := by simp [World.shape?, hb]
    have hfz : w.frozen? ⟨b, 0, none⟩ = false := Lib.frozen_of_heap hb 0
    clear hb
    go_enter Tryz.func76, Tryz.ntmps76
    go_wp2
    rw [Lib.run_to_unsafe w ⟨b, 0, none⟩ (by kernel_rfl) (by kernel_rfl) hj (by rw [hjs]; decide) hsh (Nat.zero_lt_succ 1)]
    simp only [Result.andThen]
    rw [Oper.upon_value]
    go_wp2
    rw [run_callFunc_extern Tryz.func109 (by kernel_rfl) (by kernel_rfl) (by kernel_rfl) (e := Extern.AbiNoEscape.same) (by kernel_rfl)]
    rw [Lib.run_noEscape]
    simp only [Result.andThen]
    rw [Oper.upon_value]
    go_wp2
    rw [Lib.run_from_unsafe w ⟨b, 0, none⟩ (by kernel_rfl) (by kernel_rfl) hj hsh Tryz.liesBuilder]
    simp only [Result.andThen]
    rw [Oper.upon_value]
    go_wp2
    go_end0
    exact ⟨rfl, .inl ⟨trivial, rfl⟩⟩
  · clear hb
    go_enter Tryz.func76, Tryz.ntmps76
    go_wp2
    rw [Lib.run_neq_ptr_same w _ (by kernel_rfl) hj]
    go_wp2
    go_end0
    exact ⟨rfl, .inr ⟨trivial, rfl⟩⟩

/-- Behind copyCheck. -/
theorem Bld.checked {b : Nat} {l : Str} {O : Nat → Prop} {w : World} (h : Bld b l O w) :
    Calls Tryz.prog 76 #[.pointer (some ⟨b, 0, none⟩)] w fun e w' => e = .returned (.tuple #[]) ∧ Turn O w w' O ∧
      ∃ v, w'.heap[b]? = some (.cells #[.pointer (some ⟨b, 0, none⟩), v] 94 (0, 0)) ∧ w'.ownsRow b 5 1 v l.length (Lib.byteCells l) ∧ (l = [] → v = .slice none 0 0) ∧ O = (fun k => k = b ∨ v.ownBlock = some k) := by
  obtain ⟨p, v, hb, hp, hown, h0, rfl⟩ := h
  refine (copyCheck_any b p v w hb hp).mono ?_
  rintro e w' ⟨rfl, ⟨rfl, rfl⟩ | ⟨rfl, rfl⟩⟩
  · refine ⟨rfl, ?_⟩
    have hne := Lib.ownBlock_ne hown hb (by decide)
    refine ⟨⟨rfl, rfl, rfl, by simp [World.setCell], fun k hk hn => Below.heap_setCell _ _ _ _ (fun e => hn (.inl e)), fun k hk => .inl hk⟩, v, ?_, ?_, h0, rfl⟩
    · simp [World.setCell, Array.getElem?_modify, hb]
    · refine hown.kept (row := some b) ⟨rfl, rfl, rfl, by simp [World.setCell], fun k _ hk => Below.heap_setCell _ _ _ _ (fun e => hk (by simp [e]))⟩ (Or.inr hne)
  · refine ⟨rfl, ?_⟩
    exact ⟨Turn.refl _ _, v, hb, hown, h0, rfl⟩

/-- A new buffer laid in. -/
theorem Bld.put {b : Nat} {l' : Str} {v v' : Value} {A w : World} {O : Nat → Prop} (hO : O = (fun k => k = b ∨ v.ownBlock = some k)) (hA : b < A.heap.size)
    (hb : w.heap[b]? = some (.cells #[.pointer (some ⟨b, 0, none⟩), v] 94 (0, 0))) (hown : w.ownsRow b 5 1 v' l'.length (Lib.byteCells l')) (h0 : l' = [] → v' = .slice none 0 0)
    (hg : ∀ k, k < A.heap.size → k ≠ b → v.ownBlock ≠ some k → w.heap[k]? = A.heap[k]?) (hsz : A.heap.size ≤ w.heap.size) (h1 : w.os = A.os) (h2 : w.tape = A.tape) (h3 : w.output = A.output)
    (hk : ∀ k, v'.ownBlock = some k → v.ownBlock = some k ∨ A.heap.size ≤ k) : ∃ O', Bld b l' O' (w.setCell ⟨b, 1, none⟩ v') ∧ Turn O A (w.setCell ⟨b, 1, none⟩ v') O' := by
  subst hO
  have hne := Lib.ownBlock_ne hown hb (by decide)
  refine ⟨fun k => k = b ∨ v'.ownBlock = some k, ⟨.pointer (some ⟨b, 0, none⟩), v', ?_, .inr rfl, ?_, h0, rfl⟩, h1, h2, h3, by simpa [World.setCell] using hsz, ?_, ?_⟩
  · simp [World.setCell, Array.getElem?_modify, hb]
  · exact hown.kept (row := some b) ⟨rfl, rfl, rfl, by simp [World.setCell], fun k _ hk => Below.heap_setCell _ _ _ _ (fun e => hk (by simp [e]))⟩ (Or.inr hne)
  · intro k hk hn
    rw [Below.heap_setCell _ _ _ _ (fun e => hn (.inl e))]
    exact hg k hk (fun e => hn (.inl e)) (fun e => hn (.inr e))
  · rintro k (rfl | h)
    · exact .inl (.inl rfl)
    · exact (hk k h).imp .inr id

set_option maxHeartbeats 2000000 in
set_option maxRecDepth 100000 in
theorem writeByte_any (b : Nat) (l : Str) (c : UInt8) (O : Nat → Prop) (w : World) (h : Bld b l O w) (hlen : l.length + 1 ≤ 140737488355328) :
    Calls Tryz.prog 47 #[.pointer (some ⟨b, 0, none⟩), .int .u8 c.toNat] w fun e w' => e = .returned .nilIface ∧ ∃ O', Bld b (l ++ [c]) O' w' ∧ Turn O w w' O' := by
  obtain ⟨i0, hi, hz0, hz1, hz2⟩ := info_parts Tryz.infoByte
  have C := h.checked
  clear h
  go_enter Tryz.func47, Tryz.ntmps47
  go_wp2_with (go_at_call 76; refine C.mono ?_)
  rintro e w1 ⟨rfl, ht1, v, hbk, hown, h0, hO⟩
  have c0 : w1.cell? ⟨b, 0, none⟩ = some (.pointer (some ⟨b, 0, none⟩)) := by rw [Lib.cell_of_heap hbk]; rfl
  have c1 : w1.cell? ⟨b, 1, none⟩ = some v := by rw [Lib.cell_of_heap hbk]; rfl
  have hlt : b < w1.heap.size := (Array.getElem?_eq_some_iff.1 hbk).1
  have hne := Lib.ownBlock_ne hown hbk (by decide)
  go_wp2_with (at_builtin; refine wpList_append_one rfl _ _ 92 rfl b 5 i0 (.int .u8 0) (by kernel_rfl) hi hz0 hz1 hz2 rfl _ _ _ rfl (hown.alloc _) ⟨w1.heap.size, 0, none⟩ 1 1 [.int .u8 c.toNat] rfl rfl ?c1 ?c2 ?c3 ?c4 ?c5 ?_)
  case c1 =>
    intro j u hj
    match j, hj with
    | 0, hj => simp at hj; subst hj; simp [Addr.add]
  case c2 => intro u hu; simp at hu; subst hu; rfl
  case c3 => unfold maxLen; omega
  case c4 => omega
  case c5 => simp; omega
  intro v' w2 hown' hgrow hnil hblk
  have hb2 : w2.heap[b]? = some (.cells #[.pointer (some ⟨b, 0, none⟩), v] 94 (0, 0)) := by
    rw [hgrow.block b (by simp; omega) (fun e => hne e.symm), Lib.alloc_old w1 _ b hlt]
    exact hbk
  have d0 : w2.cell? ⟨b, 0, none⟩ = some (.pointer (some ⟨b, 0, none⟩)) := by rw [Lib.cell_of_heap hb2]; rfl
  have d1 : w2.cell? ⟨b, 1, none⟩ = some v := by rw [Lib.cell_of_heap hb2]; rfl
  have f1 : w2.frozen? ⟨b, 1, none⟩ = false := Lib.frozen_of_heap hb2 1
  have HP : Hid (∃ O', Bld b (l ++ [c]) O' (w2.setCell ⟨b, 1, none⟩ v') ∧ Turn O w (w2.setCell ⟨b, 1, none⟩ v') O') := by
    obtain ⟨O', hB, hT⟩ := Bld.put (l' := l ++ [c]) (v' := v') (A := w1) hO hlt hb2 (by simpa [Lib.byteCells] using hown') (by simp)
      (fun k hk hkb hkv => (hgrow.block k (by simp; omega) (fun e => hkv e.symm)).trans (Lib.alloc_old w1 _ k hk)) (by have := hgrow.size; simp at this; omega) hgrow.os hgrow.tape hgrow.output
      (fun k hk => (hblk k hk).imp id (fun h => by first | omega | (simp at h; omega)))
    exact ⟨O', hB, ht1.trans hT⟩
  obtain ⟨g, cap, rfl⟩ : ∃ g cap, v' = .slice (some ⟨g, 0, none⟩) (l.length + 1) cap := by
    rcases hown'.2 with ⟨_, h0⟩ | ⟨g, cap, cur, hv, _⟩
    · omega
    · exact ⟨g, cap, hv⟩
  clear hnil hblk hgrow hown' hown hO hne hb2 hbk ht1
  go_wp2
  go_ret
  exact ⟨rfl, HP.out⟩

set_option maxHeartbeats 2000000 in
set_option maxRecDepth 100000 in
theorem writeString_any (b : Nat) (l s : Str) (O : Nat → Prop) (w : World) (h : Bld b l O w) (hlen : l.length + s.length ≤ 140737488355328) :
    Calls Tryz.prog 48 #[.pointer (some ⟨b, 0, none⟩), .string ⟨s.toArray⟩] w fun e w' => e = .returned (.tuple #[.int .i64 s.length, .nilIface]) ∧ ∃ O', Bld b (l ++ s) O' w' ∧ Turn O w w' O' := by
  obtain ⟨i0, hi, hz0, hz1, hz2⟩ := info_parts Tryz.infoByte
  have C := h.checked
  clear h
  have hss : (ByteArray.mk s.toArray).size = s.length := by simp [ByteArray.size]
  go_enter Tryz.func48, Tryz.ntmps48
  go_wp2_with (go_at_call 76; refine C.mono ?_)
  rintro e w1 ⟨rfl, ht1, v, hbk, hown, h0, hO⟩
  have c0 : w1.cell? ⟨b, 0, none⟩ = some (.pointer (some ⟨b, 0, none⟩)) := by rw [Lib.cell_of_heap hbk]; rfl
  have c1 : w1.cell? ⟨b, 1, none⟩ = some v := by rw [Lib.cell_of_heap hbk]; rfl
  have hlt : b < w1.heap.size := (Array.getElem?_eq_some_iff.1 hbk).1
  have hne := Lib.ownBlock_ne hown hbk (by decide)
  go_wp2_with (at_builtin; refine wpList_append_bytes rfl _ _ 92 9 rfl b 5 i0 (by kernel_rfl) (by kernel_rfl) hi hz0 hz1 hz2 _ _ _ rfl hown ⟨s.toArray⟩ rfl ?c3 ?c4 ?c5 ?_)
  case c3 => rw [hss]; unfold maxLen; omega
  case c4 => rw [hss]; omega
  case c5 => omega
  intro v' w2 hown' hgrow hnil hblk
  have hb2 : w2.heap[b]? = some (.cells #[.pointer (some ⟨b, 0, none⟩), v] 94 (0, 0)) := by
    rw [hgrow.block b hlt (fun e => hne e.symm)]
    exact hbk
  have d0 : w2.cell? ⟨b, 0, none⟩ = some (.pointer (some ⟨b, 0, none⟩)) := by rw [Lib.cell_of_heap hb2]; rfl
  have d1 : w2.cell? ⟨b, 1, none⟩ = some v := by rw [Lib.cell_of_heap hb2]; rfl
  have f1 : w2.frozen? ⟨b, 1, none⟩ = false := Lib.frozen_of_heap hb2 1
  have HP : Hid (∃ O', Bld b (l ++ s) O' (w2.setCell ⟨b, 1, none⟩ v') ∧ Turn O w (w2.setCell ⟨b, 1, none⟩ v') O') := by
    obtain ⟨O', hB, hT⟩ := Bld.put (l' := l ++ s) (v' := v') (A := w1) hO hlt hb2 (by simpa [Lib.byteCells, Lib.strCells] using hown')
      (fun h => by simp at h; exact hnil.2 ⟨h0 h.1, by simp [h.2]⟩)
      (fun k hk hkb hkv => hgrow.block k hk (fun e => hkv e.symm)) hgrow.size hgrow.os hgrow.tape hgrow.output hblk
    exact ⟨O', hB, ht1.trans hT⟩
  obtain ⟨ao, n', cap, rfl⟩ : ∃ ao n' cap, v' = .slice ao n' cap := by
    rcases hown'.2 with ⟨hv, _⟩ | ⟨g, cap, cur, hv, _⟩
    · exact ⟨_, _, _, hv⟩
    · exact ⟨_, _, _, hv⟩
  clear hnil hblk hgrow hown' hown hO hne hb2 hbk ht1 h0
  go_wp2
  go_ret2
  exact ⟨rfl, HP.out⟩

end Go.Proofs.YtdcbgfhkfmohiaaGreatDoor

/- strings.Builder: String. -/
namespace Go.Proofs.YtdcbgfhkfmohiaaGreatDoor
open Go.RowKit

theorem freeze_other {w : World} {g k : Nat} (n : Nat) (h : k ≠ g) : (w.freeze ⟨g, 0, none⟩ n).heap[k]? = w.heap[k]? := by
  unfold World.freeze
  split
  · rfl
  · simp only [Array.getElem?_modify]
    rw [if_neg (fun e => h e.symm)]

set_option maxHeartbeats 2000000 in
set_option maxRecDepth 100000 in
theorem string_any (b : Nat) (l : Str) (O : Nat → Prop) (w : World) (h : Bld b l O w) :
    Calls Tryz.prog 49 #[.pointer (some ⟨b, 0, none⟩)] w fun e w' => e = .returned (.string ⟨l.toArray⟩) ∧ Below b w w' ∧ ∀ k, ¬ O k → w'.heap[k]? = w.heap[k]? := by
  obtain ⟨p, v, hbk, _, hown, hnil, hO⟩ := h
  have HO : Hid _ := hO
  clear hO
  by_cases h0 : l = []
  · have hv := hnil h0
    subst h0 hv
    have hUS : ∀ (W : World) (q : Option Addr), (Builtin.unsafeString_ #[158, 3] 9 #[.pointer q, .int .i64 0]).run Tryz.prog W = .ok (.string .empty) W := fun W q => Lib.run_unsafeString_none W _ _ _ q
    have c1 : w.drew.cell? ⟨b, 1, none⟩ = some (.slice none 0 0) := by
      have : w.drew.heap[b]? = some (.cells #[p, .slice none 0 0] 94 (0, 0)) := hbk
      rw [Lib.cell_of_heap this]; rfl
    have hSD : (Builtin.unsafeSliceData_ #[92] 158 #[.slice none 0 0]).run Tryz.prog w.drew = .ok (.pointer none) w.drew := rfl
    clear hbk hown hnil
    go_enter Tryz.func49, Tryz.ntmps49
    go_wp2
    go_region
    all_goals (go_wp2; go_ret; exact ⟨rfl, Below.drew (Below.refl b w), fun _ _ => rfl⟩)
  have hl0 : l.length ≠ 0 := by simpa using h0
  obtain ⟨g, cap, cur, rfl, hbg, hg, hnc, hcm, hcs, htake⟩ : ∃ g cap cur, v = .slice (some ⟨g, 0, none⟩) l.length cap ∧ b ≤ g ∧ w.heap[g]? = some (.cells cur 5 (0, 0)) ∧ l.length ≤ cap ∧ cap ≤ maxLen ∧ cur.size = cap * 1 ∧ cur.toList.take (l.length * 1) = Lib.byteCells l := by
    rcases hown.2 with ⟨_, hz⟩ | ⟨g, cap, cur, hv, r⟩
    · exact absurd hz hl0
    · exact ⟨g, cap, cur, hv, r⟩
  have c1 : w.drew.cell? ⟨b, 1, none⟩ = some (.slice (some ⟨g, 0, none⟩) l.length cap) := by
    have : w.drew.heap[b]? = some (.cells #[p, .slice (some ⟨g, 0, none⟩) l.length cap] 94 (0, 0)) := hbk
    rw [Lib.cell_of_heap this]; rfl
  have hSD : (Builtin.unsafeSliceData_ #[92] 158 #[.slice (some ⟨g, 0, none⟩) l.length cap]).run Tryz.prog w.drew = .ok (.pointer (some ⟨g, 0, none⟩)) w.drew :=
    Lib.run_unsafeSliceData_row _ _ _ _ _ _ (by omega)
  have hUS : (Builtin.unsafeString_ #[158, 3] 9 #[.pointer (some ⟨g, 0, none⟩), .int .i64 l.length]).run Tryz.prog w.drew = .ok (.string ⟨l.toArray⟩) (w.drew.freeze ⟨g, 0, none⟩ l.length) := by
    refine Lib.run_unsafeString_row w.drew 158 3 9 5 (by kernel_rfl) Tryz.cellsByte g cur.size (by have hg' : w.drew.heap[g]? = some (.cells cur 5 (0, 0)) := hg; simp [World.shape?, hg']) l h0 (by omega) (by unfold maxLen at hcm; omega) ?_
    intro j x hx
    have := hown.cells (g := g) rfl j (.int .u8 x.toNat) (by simp [Lib.byteCells, hx])
    exact this
  clear hbk hown hnil htake hcs
  go_enter Tryz.func49, Tryz.ntmps49
  go_wp2
  go_region
  all_goals (go_wp2; go_ret; exact ⟨rfl, Lib.below_freeze (Below.drew (Below.refl b w)) (p := ⟨g, 0, none⟩) hbg _, fun k hk => freeze_other _ (fun e => hk (by rw [HO.out]; exact .inr (by rw [e]; rfl)))⟩)

end Go.Proofs.YtdcbgfhkfmohiaaGreatDoor

/- Diff: the program's call. -/
namespace Go.Proofs.YtdcbgfhkfmohiaaGreatDoor
open Go.RowKit Go.Shelf
attribute [local go_sem] Oper.semAt_some

theorem diffR_none1 {r : RSt} {n m : Int} (h : findL r.all n = none) : diffR r n m = ([], 2) := by unfold diffR; rw [h]
theorem diffR_none2 {r : RSt} {n m : Int} (h : findL r.all m = none) : diffR r n m = ([], 2) := by unfold diffR; rw [h]; split <;> simp_all
theorem diffR_go {r : RSt} {n m : Int} {l k : List Fl} (h : findL r.all n = some l) (h' : findL r.all m = some k) : diffR r n m = (diffT l k, 0) := by unfold diffR; rw [h, h']

/-- A line of Diff's. -/
def lineM (x : Str × Nat) : Str := UInt8.ofNat x.2 :: x.1 ++ [10]

theorem diffT_lines {A B : Ents} (hA : WFE A) (hB : WFE B) (h5 : heightE A ≤ 5) (h5' : heightE B ≤ 5) : diffT (toF (filesE A)) (toF (filesE B)) = (chgS 6 [] (some (.dir A)) (some (.dir B))).flatMap lineM := by
  have h1 := diff_chg hA hB h5 h5'
  have h2 := chg_names 6 [] (some (.dir A)) (some (.dir B)) (by simp) (fits_root hA h5) (fits_root hB h5')
  rw [show joinP ([] : List Str) = [] from rfl] at h2
  unfold diffT
  rw [h1, h2]
  unfold toF
  simp only [List.flatMap_map, List.map_map, Function.comp_def]
  congr 1

theorem diffL_len (l m : List Fl) : (diffL l m).length ≤ l.length + m.length := by
  have hA : ∀ (l both : List Fl), (l.foldl (diffA m) both).length ≤ both.length + l.length := by
    intro l
    induction l with
    | nil => intro both; simp
    | cons f l ih =>
      intro both
      rw [List.foldl_cons, List.length_cons]
      have h1 := ih (diffA m both f)
      have h2 : (diffA m both f).length ≤ both.length + 1 := by
        unfold diffA
        split
        · exact putL_len_le _ _
        · split
          · omega
          · exact putL_len_le _ _
      omega
  have hB : ∀ (k both : List Fl), (k.foldl (diffB l) both).length ≤ both.length + k.length := by
    intro k
    induction k with
    | nil => intro both; simp
    | cons f k ih =>
      intro both
      rw [List.foldl_cons, List.length_cons]
      have h1 := ih (diffB l both f)
      have h2 : (diffB l both f).length ≤ both.length + 1 := by
        unfold diffB
        split
        · exact putL_len_le _ _
        · omega
      omega
  unfold diffL
  have h1 := hB m (l.foldl (diffA m) [])
  have h2 := hA l []
  simp at h2
  omega

theorem chgS_len (n : Nat) : ∀ (path : Str) (a b : Option Tree), fitsT n a → fitsT n b → ∀ x ∈ chgS n path a b, x.1.length ≤ path.length + 9 * n := by
  induction n with
  | zero => intro path a b _ _ x hx; simp [chgS] at hx
  | succ n ih =>
    intro path a b hfa hfb x hx
    have root : ∀ (c : Option Tree), fitsT (n + 1) c → ∀ e ∈ entsO c, e.1.length ≤ 8 := by
      intro c hc e he
      cases c with
      | none => simp [entsO] at he
      | some u =>
        cases u with
        | file d => simp [entsO] at he
        | dir es => exact (hc e he).2.1
    rw [chgS] at hx
    split at hx
    · simp at hx
    · rw [List.mem_append] at hx
      rcases hx with hx | hx
      · split at hx
        · simp at hx
        · simp at hx; subst hx; simp
      · rw [List.mem_flatMap] at hx
        obtain ⟨p, hp, hx⟩ := hx
        obtain ⟨h1, h2, h3⟩ := pair_fits hfa hfb p hp
        have h4 := ih _ _ _ h2 h3 x hx
        obtain ⟨m1, m2, m3⟩ := pairs_mem (Nat.le_refl _) p hp
        have h5 : p.1.length ≤ 8 := by
          cases ht : p.2.1 with
          | some t => exact root a hfa _ (m1 t ht)
          | none =>
            cases hu : p.2.2 with
            | none => exact absurd hu (m3 ht)
            | some u =>
              obtain ⟨y, hy, e⟩ := m2 u hu
              rw [e]; exact root b hfb _ hy
        have h6 : (joinS path p.1).length ≤ path.length + 9 := by
          unfold joinS; split
          · omega
          · simp only [List.length_append, List.length_cons]; omega
        omega

theorem flatM_len {α : Type} (f : α → Str) (c : Nat) : ∀ l : List α, (∀ x ∈ l, (f x).length ≤ c) → (l.flatMap f).length ≤ l.length * c
  | [], _ => by simp
  | x :: l, h => by
    rw [List.flatMap_cons, List.length_append, List.length_cons, Nat.add_mul]
    have h1 := h x (by simp)
    have h2 := flatM_len f c l (fun y hy => h y (by simp [hy]))
    omega

/-- All of Diff's lines, and each beginning of them, are short. -/
theorem chg_short {A B : Ents} (hA : WFE A) (hB : WFE B) (h5 : heightE A ≤ 5) (h5' : heightE B ≤ 5) (hn : (filesE A).length ≤ 20) (hn' : (filesE B).length ≤ 20) :
    ∀ pre, pre <+: chgS 6 [] (some (.dir A)) (some (.dir B)) → (pre.flatMap lineM).length ≤ 40 * 60 ∧ ∀ x ∈ pre, x.1.length ≤ 54 := by
  have h1 := diff_chg hA hB h5 h5'
  have h2 := chg_names 6 [] (some (.dir A)) (some (.dir B)) (by simp) (fits_root hA h5) (fits_root hB h5')
  rw [show joinP ([] : List Str) = [] from rfl] at h2
  have h3 := diffL_len (toF (filesE A)) (toF (filesE B))
  rw [h1] at h3
  have h4 : (chgS 6 [] (some (.dir A)) (some (.dir B))).length ≤ 40 := by
    rw [h2]
    simp [toF] at h3 ⊢
    omega
  intro pre hpre
  have hx : ∀ x ∈ pre, x.1.length ≤ 54 := fun x hx => by
    have := chgS_len 6 [] _ _ (fits_root hA h5) (fits_root hB h5') x (hpre.subset hx)
    simpa using this
  refine ⟨?_, hx⟩
  have h6 := flatM_len lineM 60 pre (fun x hxm => by have := hx x hxm; simp [lineM]; omega)
  have h7 := hpre.length_le
  have : pre.length * 60 ≤ 40 * 60 := Nat.mul_le_mul_right _ (by omega)
  omega

theorem range_flat {α : Type} {n m : Nat} {g : Operand} {ps : Array Tmp} {assign body : Code} {Q : Exit → Act → World → Prop} {a : Act} {w : World} {gf : Nat} {lb : Array Value} (hg : a.eval g = .func (.func gf) #[] lb) (eg : ∀ args w, (callFunc gf args).run Tryz.prog w = .ok (.enter gf args) w)
    {encs : α → Array Value} {xs : List α} {R : Nat → Prop} (hseq : SeqOf Tryz.prog gf lb encs xs R w) (hps : ∀ x, (encs x).size = ps.size) (O : Nat → Prop) (hR : ∀ k, R k → k < w.heap.size ∧ ¬ O k)
    (I : List α → (Nat → Prop) → World → Prop) (hloc : ∀ pre, Local w.heap.size (I pre)) (h0 : I [] O w) (ins : Array Value → α → Array Value)
    (hassign : ∀ l x W (K : Act → World → Prop), K { tmps := ins a.tmps x, defers := [] } W →
      assign.wpIn (Fence.wide.inRound l) m Tryz.prog (Exit.then K (fun _ _ _ => False)) { tmps := (ps.zip (encs x)).foldl (fun t (p, v) => t.setIfInBounds p v) a.tmps, defers := [] } W)
    (hbody : ∀ l pre x O1 W2, w.heap.size ≤ l → pre ++ [x] <+: xs → I pre O1 W2 → Turn O w W2 O1 →
      body.wpIn (Fence.wide.inRound l) m Tryz.prog (goesOn I (pre ++ [x]) O1 W2) { tmps := ins a.tmps x, defers := [] } W2)
    (hdone : ∀ D O' W', w.heap.size ≤ D → I xs O' W' → ¬ O' D → Turn O w W' O' → W'.heap[D]? = some (.deferred (some [])) → Q .normal { a with defers := { target := .collected D, args := #[] } :: a.defers } W') :
    (Code.rangeFunc g ps assign body).wpIn Fence.wide n Tryz.prog Q a w := by
  refine range_outer (m := m) hg eg hseq hps O hR I hloc h0 (fun x a' _ => a' = { tmps := ins a.tmps x, defers := [] }) ?_ ?_ hdone
  · intro l pre x O1 W K _ _ hK
    exact hassign l x W K (hK _ _ (Below.refl _ _) rfl)
  · rintro l r pre x O1 a' W' W2 h1 h2 h3 rfl _ _ _ h8 h9
    exact hbody l pre x O1 W2 h1 h2 h8 h9

end Go.Proofs.YtdcbgfhkfmohiaaGreatDoor

/- Diff: the program's call. -/
namespace Go.Proofs.YtdcbgfhkfmohiaaGreatDoor
open Go.RowKit Go.Shelf
attribute [local go_sem] Oper.semAt_some

theorem markT_small (a b : Option Tree) : markT a b < 256 := by
  unfold markT
  split
  · omega
  · omega
  · omega
  · split <;> omega

theorem chgS_mark (n : Nat) : ∀ (path : Str) (a b : Option Tree), ∀ x ∈ chgS n path a b, x.2 < 256 := by
  induction n with
  | zero => intro path a b x hx; simp [chgS] at hx
  | succ n ih =>
    intro path a b x hx
    rw [chgS] at hx
    split at hx
    · simp at hx
    · rw [List.mem_append] at hx
      rcases hx with hx | hx
      · split at hx
        · simp at hx
        · simp at hx; subst hx; exact markT_small a b
      · rw [List.mem_flatMap] at hx
        obtain ⟨p, hp, hx⟩ := hx
        exact ih _ _ _ x hx

set_option maxHeartbeats 8000000 in
set_option maxRecDepth 50000 in
theorem storeDiff_any (B : Bank) (r : RSt) (n m : Int) (w : World) (hO : Okay w B) (ha : Agree B r) :
    Calls Tryz.prog 27 #[ptrV B.sb, .int .i64 n, .int .i64 m] w fun e w' => DiffOut w (diffR r n m) e w' := by
  have s2 : w.cell? ⟨B.sb, 2, none⟩ = some (.map (some B.rs)) := (blk_cell hO.at'.store 2).trans rfl
  obtain ⟨v1, hl1, h1⟩ := snap_any hO ha n
  obtain ⟨v2, hl2, h2⟩ := snap_any hO ha m
  have L1 : Hid _ := hl1
  have L2 : Hid _ := hl2
  have H1 : Hid _ := h1
  have H2 : Hid _ := h2
  have HO : Hid _ := hO
  clear hl1 hl2 h1 h2 hO ha
  refine (callsIn_wide (n := 0)).1 ?_
  refine callsIn_of_wp_marks Tryz.func27 rfl trivial ?_ rfl
  refine (wpIn_wide (n := 0)).2 ?_
  simp only [Tryz.ntmps27, List.size_toArray, List.length_cons, List.length_nil, Nat.reduceAdd, Nat.reduceSub, Array.replicate_succ, Array.replicate_zero, List.push_toArray, List.append_toArray, List.nil_append, List.cons_append]
  go_wp2
  refine wp_region_quiet_lit (by kernel_rfl) (by kernel_rfl) ?_
  quiet_step (fail)
  quiet_step (fail)
  quiet_step (fail)
  quiet_step (fail)
  quiet_step (fail)
  refine quiet_lookup rfl 82 (.tmp 16) (.tmp 17) rfl _ _ _ rfl rfl (fun W hW => L1.out W hW) ?_
  quiet_step (fail)
  quiet_step (fail)
  quiet_step (fail)
  quiet_step (fail)
  quiet_step (fail)
  refine quiet_lookup rfl 82 (.tmp 22) (.tmp 23) rfl _ _ _ rfl rfl (fun W hW => L2.out W hW) ?_
  quiet_step (fail)
  quiet_step (fail)
  refine wpQuiet_nil ?_
  intro _ hw'
  obtain ⟨nq, hw''⟩ := hw'
  subst hw''
  have HBq : Hid (Below w.heap.size w (w.drewN nq)) := below_drewN (Below.refl _ _) _
  have HOq : Hid (Okay (w.drewN nq) B) := HO.out.frame fun _ _ => rfl
  have HSz : Hid ((w.drewN nq).heap.size = w.heap.size) := rfl
  clear s2 L1 L2
  generalize w.drewN nq = wq at *
  rcases H1.out with ⟨rfl, hf1⟩ | ⟨es1, k1, hk1, rfl, hf1⟩
  · have R : Hid (DiffOut w (diffR r n m) (.returned (.tuple #[SV [], .int .i64 2])) wq) := by rw [Hid, diffR_none1 hf1]; exact ⟨rfl, HBq.out⟩
    clear H1 H2 HO HBq hf1
    go_wp2
    exact ⟨_, results_tmp2 (t := 6) (u := 7) rfl _ _ _, R.out⟩
  · rcases H2.out with ⟨rfl, hf2⟩ | ⟨es2, k2, hk2, rfl, hf2⟩
    · have R : Hid (DiffOut w (diffR r n m) (.returned (.tuple #[SV [], .int .i64 2])) wq) := by rw [Hid, diffR_none2 hf2]; exact ⟨rfl, HBq.out⟩
      clear H1 H2 HO HBq hf1 hf2 hk1
      generalize B.ad (.dir es1) = b1 at *
      go_wp2
      exact ⟨_, results_tmp2 (t := 6) (u := 7) rfl _ _ _, R.out⟩
    · have w1 := HO.out.wf _ hk1
      have w2 := HO.out.wf _ hk2
      have HG : Hid (diffR r n m = ((chgS 6 [] (some (.dir es1)) (some (.dir es2))).flatMap lineM, 0)) := by rw [Hid, diffR_go hf1 hf2, diffT_lines w1.1 w2.1 w1.2.2 w2.2.2]
      have HS : Hid _ := chg_short w1.1 w2.1 w1.2.2 w2.2.2 w1.2.1 w2.2.1
      have hd1 : es1 ∈ B.ds := HO.out.at'.roots _ hk1
      have hd2 : es2 ∈ B.ds := HO.out.at'.roots _ hk2
      have HF1 : Hid _ := fits_root w1.1 w1.2.2
      have HF2 : Hid _ := fits_root w2.1 w2.2.2
      clear H1 H2 hf1 hf2 HO w1 w2 hk1 hk2
      have HC := changes_any ([], dirV (B.ad (.dir es1))) ([], dirV (B.ad (.dir es2))) []
      obtain ⟨b1, hb1⟩ : ∃ b1, B.ad (.dir es1) = b1 := ⟨_, rfl⟩
      obtain ⟨b2, hb2⟩ : ∃ b2, B.ad (.dir es2) = b2 := ⟨_, rfl⟩
      rw [hb1, hb2] at HC
      have HB1 : Hid _ := hb1
      have HB2 : Hid _ := hb2
      simp only [hb1, hb2]
      clear hb1 hb2
      go_wp2_with (go_at_call 46; refine (HC _ rfl rfl).mono ?_; rintro e w' ⟨rfl, rfl⟩)
      have n0 := heap_alloc_new wq (.cells #[.pointer none, .slice none 0 0] 94)
      have h0 : Below wq.heap.size wq (wq.alloc (.cells #[.pointer none, .slice none 0 0] 94)) := (Below.refl _ wq).alloc (Nat.le_refl _) _
      have hz0 : (wq.alloc (.cells #[.pointer none, .slice none 0 0] 94)).heap.size = wq.heap.size + 1 := by simp
      generalize wq.alloc (.cells #[.pointer none, .slice none 0 0] 94) = wb at *
      have tb := three_blocks wb (.cells #[SV [], dirV b1] 101) (.cells #[SV [], dirV b2] 101) (.cells #[SV []] 9)
      generalize hW5 : ((wb.alloc (.cells #[SV [], dirV b1] 101)).alloc (.cells #[SV [], dirV b2] 101)).alloc (.cells #[SV []] 9) = w5 at *
      have hs5 : wb.heap.size + 3 ≤ w5.heap.size := by rw [← hW5]; simp
      clear hW5 HC
      have h5 : Below wq.heap.size wq w5 := h0.trans (tb.2.2.2.mono (by omega))
      have HD5 : Hid (w5.heap[wq.heap.size]? = some (.cells #[.pointer none, .slice none 0 0] 94 (0, 0))) := (tb.2.2.2.block _ (by omega)).trans n0
      have HBank : Hid (BankAt w5 B) := (HOq.out.below h5).at'
      have CH : Hid (ChgAt w5 B [] [] (some (.dir es1)) (some (.dir es2)) wb.heap.size (wb.heap.size + 1) (wb.heap.size + 2)) :=
        ⟨HBank.out, hd1, hd2, by rw [← HB1.out] at tb; exact tb.1, by rw [← HB2.out] at tb; exact tb.2.1, tb.2.2.1⟩
      have SQ := changes_seq B 6 [] [] (some (.dir es1)) (some (.dir es2)) wb.heap.size (wb.heap.size + 1) (wb.heap.size + 2) w5 CH.out (by simp) (by simp) (by simp) (by simp) HF1.out HF2.out
      rw [show joinS [] [] = [] from rfl] at SQ
      generalize hxs : chgS 6 [] (some (.dir es1)) (some (.dir es2)) = xs at *
      have H5 : Hid (Below w.heap.size w w5) := HBq.out.trans (h5.mono (by rw [HSz.out]; exact Nat.le_refl _))
      have hbw : Hid (w.heap.size ≤ wq.heap.size) := by rw [Hid, HSz.out]; exact Nat.le_refl _
      have OWN : Hid (∀ k, B.own k → k < wq.heap.size) := fun k hk => HOq.out.at'.own_lt hk
      have MK : Hid (∀ x ∈ xs, x.2 < 256) := by rw [Hid, ← hxs]; exact chgS_mark 6 [] _ _
      have HXS : Hid _ := hxs
      rw [hz0] at SQ hs5
      clear hxs
      clear tb n0 h0 h5 HBank CH hd1 hd2 HF1 HF2 HOq
      refine (wpIn_wide (n := 0)).1 ?_
      refine range_flat (m := 0) (α := Str × Nat) (gf := 71) (lb := #[ptrV (wq.heap.size + 1), ptrV (wq.heap.size + 1 + 1), ptrV (wq.heap.size + 1 + 2)]) rfl (enters_of Tryz.func71 (by kernel_rfl) rfl)
        SQ (fun _ => rfl) (fun k => k = wq.heap.size) ?hR
        (fun pre O1 V => Bld wq.heap.size (pre.flatMap lineM) O1 V ∧ w5.heap.size ≤ V.heap.size) (fun pre => (Bld.local wq.heap.size wq.heap.size _ (Nat.le_refl _)).mono (by omega))
        ⟨Bld.new HD5.out, Nat.le_refl _⟩
        (fun t z => ((((t.setIfInBounds 38 (SV z.1)).setIfInBounds 39 (.int .u8 z.2)).setIfInBounds 11 (SV z.1)).setIfInBounds 12 (.int .u8 z.2))) ?assign ?body ?done
      case hR =>
        rintro k (rfl | rfl | rfl | hk)
        · exact ⟨by omega, by omega⟩
        · exact ⟨by omega, by omega⟩
        · exact ⟨by omega, by omega⟩
        · have := OWN.out k hk
          exact ⟨by omega, by omega⟩
      case assign =>
        intro l x V K hK
        gi_wp2
        exact hK
      case body =>
        rintro l pre z O1 V2 hl hpre ⟨hB2', hs2⟩ ht2
        have hz : z ∈ xs := by obtain ⟨rr, hrr⟩ := hpre; rw [← hrr]; simp
        have hsh := HS.out pre ((List.prefix_append pre [z]).trans hpre)
        have hsh2 := (HS.out _ hpre).2 z (by simp)
        have hmk := MK.out z hz
        have C1 : Hid (Calls Tryz.prog 47 #[ptrV wq.heap.size, .int .u8 z.2] V2 fun e w' => e = .returned .nilIface ∧ ∃ O', Bld wq.heap.size (pre.flatMap lineM ++ [UInt8.ofNat z.2]) O' w' ∧ Turn O1 V2 w' O') := by
          have := writeByte_any wq.heap.size (pre.flatMap lineM) (UInt8.ofNat z.2) O1 V2 hB2' (by omega)
          rw [show (((UInt8.ofNat z.2).toNat : Nat) : Int) = (z.2 : Int) by simp; omega] at this
          exact this
        have HP : Hid (Turn (fun k => k = wq.heap.size) w5 V2 O1 ∧ w5.heap.size ≤ V2.heap.size) := ⟨ht2, hs2⟩
        have HL : Hid ((pre.flatMap lineM).length ≤ 40 * 60 ∧ z.1.length ≤ 54) := ⟨hsh.1, hsh2⟩
        clear hB2' hs2 ht2 hpre hz hsh hsh2
        simp only [List.setIfInBounds_toArray, List.set_cons_zero, List.set_cons_succ]
        gi_wp2_with fail
        refine ⟨trivial, (by first | rfl | (intro h; cases h)), (CallsIn.inRound l (callsIn_wide.2 C1.out)).mono ?_⟩
        rintro e V3 ⟨rfl, O3, hB3, ht3⟩
        have C2 : Hid _ := writeString_any wq.heap.size _ z.1 O3 V3 hB3 (by have := HL.out; simp only [List.length_append, List.length_singleton]; omega)
        have HT3 : Hid _ := ht3
        clear hB3 ht3 C1
        gi_wp2_with fail
        refine ⟨trivial, (by first | rfl | (intro h; cases h)), (CallsIn.inRound l (callsIn_wide.2 C2.out)).mono ?_⟩
        rintro e V4 ⟨rfl, O4, hB4, ht4⟩
        have C3 : Hid _ := writeByte_any wq.heap.size _ 10 O4 V4 hB4 (by have := HL.out; simp only [List.length_append, List.length_singleton]; omega)
        have HT4 : Hid _ := ht4
        clear hB4 ht4 C2
        gi_wp2_with fail
        refine ⟨trivial, (by first | rfl | (intro h; cases h)), (CallsIn.inRound l (callsIn_wide.2 C3.out)).mono ?_⟩
        rintro e V5 ⟨rfl, O5, hB5, ht5⟩
        have R : Hid (∃ O', (Bld wq.heap.size ((pre ++ [z]).flatMap lineM) O' V5 ∧ w5.heap.size ≤ V5.heap.size) ∧ Turn O1 V2 V5 O') := by
          have ht := (HT3.out.trans HT4.out).trans ht5
          refine ⟨O5, ⟨?_, Nat.le_trans HP.out.2 ht.size⟩, ht⟩
          have e : (pre ++ [z]).flatMap lineM = pre.flatMap lineM ++ [UInt8.ofNat z.2] ++ z.1 ++ [10] := by simp [lineM, List.flatMap_append]
          rw [e]; exact hB5
        clear hB5 ht5 C3 HT3 HT4 HP
        gi_wp2
        exact R.out
      case done =>
        rintro D O' V' hD ⟨hB', hs'⟩ hnD ht hdef
        have C := string_any wq.heap.size _ O' V' hB'
        have HT : Hid _ := ht
        have HN : Hid (¬ O' D) := hnD
        have HF : Hid _ := hdef
        clear hB' ht hnD hdef
        go_wp2_with fail
        refine C.mono ?_
        rintro e V6 ⟨rfl, hb6, hk6⟩
        have hdef6 : V6.heap[D]? = some (.deferred (some [])) := (hk6 D HN.out).trans HF.out
        have R : Hid (DiffOut w (diffR r n m) (.returned (.tuple #[SV (xs.flatMap lineM), .int .i64 0])) (V6.putObj D (.deferred none))) := by
          rw [Hid, HG.out]
          refine ⟨rfl, ?_⟩
          have hbv : Below w.heap.size w5 V' := ⟨HT.out.os, HT.out.tape, HT.out.output, HT.out.size, fun k hk => HT.out.blk k (by have := H5.out.size; omega) (fun e => by have := hbw.out; omega)⟩
          have hb7 : Below w.heap.size w V6 := (H5.out.trans hbv).trans (hb6.mono hbw.out)
          refine ⟨hb7.os, hb7.tape, hb7.output, by have := hb7.size; simpa using this, fun k hk => (World.putObj_heap_other (by have := H5.out.size; omega)).trans (hb7.block k hk)⟩
        clear C HT HN HF hb6 hk6 HS SQ HG
        go_wp2
        exact ⟨by simp, .inl ⟨_, _, rfl, run_takeDeferred hdef6, ⟨_, results_tmp2 (t := 6) (u := 7) rfl _ _ _, R.out⟩⟩⟩

end Go.Proofs.YtdcbgfhkfmohiaaGreatDoor

/- Items laid to the parts of a pattern: from the front (the program's way), and by rows (the document's way). No program. -/
namespace Go.Proofs.YtdcbgfhkfmohiaaGreatDoor
open Go.RowKit

/-- The items can be laid to the parts in their order: to a part that runs any number of them, to another one that it takes. -/
def laidL {T : Type} (run : T → Bool) (takes : T → T → Bool) : List T → List T → Bool
  | [], items => items.isEmpty
  | p :: ps, items => if run p then (List.range (items.length + 1)).any fun k => laidL run takes ps (items.drop k) else match items with
    | [] => false
    | x :: xs => takes p x && laidL run takes ps xs

section
variable {T : Type} {run : T → Bool} {takes : T → T → Bool}

theorem laid_nil (xs : List T) : laidL run takes [] xs = true ↔ xs = [] := by simp [laidL]
theorem laid_run {p : T} {ps xs : List T} (h : run p = true) : laidL run takes (p :: ps) xs = true ↔ ∃ ys zs, xs = ys ++ zs ∧ laidL run takes ps zs = true := by
  simp only [laidL, h, if_true, List.any_eq_true, List.mem_range]
  constructor
  · rintro ⟨k, hk, hl⟩
    exact ⟨xs.take k, xs.drop k, (List.take_append_drop k xs).symm, hl⟩
  · rintro ⟨ys, zs, rfl, hl⟩
    exact ⟨ys.length, by simp; omega, by simpa using hl⟩
theorem laid_one {p : T} {ps xs : List T} (h : run p = false) : laidL run takes (p :: ps) xs = true ↔ ∃ y zs, xs = y :: zs ∧ takes p y = true ∧ laidL run takes ps zs = true := by
  cases xs with
  | nil => simp [laidL, h]
  | cons x xs =>
    simp only [laidL, h, Bool.false_eq_true, if_false, Bool.and_eq_true, List.cons.injEq]
    constructor
    · rintro ⟨h1, h2⟩; exact ⟨x, xs, ⟨rfl, rfl⟩, h1, h2⟩
    · rintro ⟨y, zs, ⟨rfl, rfl⟩, h1, h2⟩; exact ⟨h1, h2⟩

/-- The last part that runs. -/
theorem laid_snoc_run {p : T} (h : run p = true) : ∀ (ps xs : List T), laidL run takes (ps ++ [p]) xs = true ↔ ∃ ys zs, xs = ys ++ zs ∧ laidL run takes ps ys = true
  | [], xs => by
    rw [List.nil_append, laid_run h]
    constructor
    · rintro ⟨ys, zs, rfl, hl⟩; exact ⟨[], ys ++ zs, rfl, (laid_nil _).2 rfl⟩
    · rintro ⟨ys, zs, rfl, hl⟩; exact ⟨ys ++ zs, [], by simp, (laid_nil _).2 rfl⟩
  | q :: ps, xs => by
    rw [List.cons_append]
    cases hq : run q
    · rw [laid_one hq]
      constructor
      · rintro ⟨y, zs, rfl, h1, h2⟩
        obtain ⟨az, bs, rfl, h3⟩ := (laid_snoc_run h ps zs).1 h2
        exact ⟨y :: az, bs, rfl, (laid_one hq).2 ⟨y, az, rfl, h1, h3⟩⟩
      · rintro ⟨ys, zs, rfl, h1⟩
        obtain ⟨y, az, rfl, h2, h3⟩ := (laid_one hq).1 h1
        exact ⟨y, az ++ zs, rfl, h2, (laid_snoc_run h ps _).2 ⟨az, zs, rfl, h3⟩⟩
    · rw [laid_run hq]
      constructor
      · rintro ⟨ys, zs, rfl, h1⟩
        obtain ⟨az, bs, rfl, h3⟩ := (laid_snoc_run h ps zs).1 h1
        exact ⟨ys ++ az, bs, by simp, (laid_run hq).2 ⟨ys, az, rfl, h3⟩⟩
      · rintro ⟨ys, zs, rfl, h1⟩
        obtain ⟨az, bs, rfl, h3⟩ := (laid_run hq).1 h1
        exact ⟨az, bs ++ zs, by simp, (laid_snoc_run h ps _).2 ⟨bs, zs, rfl, h3⟩⟩

/-- The last part that takes one. -/
theorem laid_snoc_one {p : T} (h : run p = false) : ∀ (ps xs : List T), laidL run takes (ps ++ [p]) xs = true ↔ ∃ ys z, xs = ys ++ [z] ∧ takes p z = true ∧ laidL run takes ps ys = true
  | [], xs => by
    rw [List.nil_append, laid_one h]
    constructor
    · rintro ⟨y, zs, rfl, h1, h2⟩
      obtain rfl := (laid_nil _).1 h2
      exact ⟨[], y, rfl, h1, (laid_nil _).2 rfl⟩
    · rintro ⟨ys, z, rfl, h1, h2⟩
      obtain rfl := (laid_nil _).1 h2
      exact ⟨z, [], rfl, h1, (laid_nil _).2 rfl⟩
  | q :: ps, xs => by
    rw [List.cons_append]
    cases hq : run q
    · rw [laid_one hq]
      constructor
      · rintro ⟨y, zs, rfl, h1, h2⟩
        obtain ⟨az, b, rfl, h3, h4⟩ := (laid_snoc_one h ps zs).1 h2
        exact ⟨y :: az, b, rfl, h3, (laid_one hq).2 ⟨y, az, rfl, h1, h4⟩⟩
      · rintro ⟨ys, z, rfl, h0, h1⟩
        obtain ⟨y, az, rfl, h2, h3⟩ := (laid_one hq).1 h1
        exact ⟨y, az ++ [z], rfl, h2, (laid_snoc_one h ps _).2 ⟨az, z, rfl, h0, h3⟩⟩
    · rw [laid_run hq]
      constructor
      · rintro ⟨ys, zs, rfl, h1⟩
        obtain ⟨az, b, rfl, h3, h4⟩ := (laid_snoc_one h ps zs).1 h1
        exact ⟨ys ++ az, b, by simp, h3, (laid_run hq).2 ⟨ys, az, rfl, h4⟩⟩
      · rintro ⟨ys, z, rfl, h0, h1⟩
        obtain ⟨az, bs, rfl, h3⟩ := (laid_run hq).1 h1
        exact ⟨az, bs ++ [z], by simp, (laid_snoc_one h ps _).2 ⟨bs, z, rfl, h0, h3⟩⟩

/-- A row: which beginnings of the items can be laid to the parts. -/
def rowL (run : T → Bool) (takes : T → T → Bool) (ps xs : List T) (k : Nat) : Bool := laidL run takes ps (xs.take k)

theorem row_start (xs : List T) {k : Nat} (hk : k ≤ xs.length) : rowL run takes [] xs k = decide (k = 0) := by
  rw [Bool.eq_iff_iff]
  unfold rowL
  rw [laid_nil, decide_eq_true_iff]
  constructor
  · intro h
    have := congrArg List.length h
    rw [List.length_take, List.length_nil, Nat.min_eq_left hk] at this
    exact this
  · rintro rfl; simp

theorem row_run {p : T} (h : run p = true) (ps xs : List T) {k : Nat} (hk : k ≤ xs.length) : rowL run takes (ps ++ [p]) xs k = (rowL run takes ps xs k || (decide (0 < k) && rowL run takes (ps ++ [p]) xs (k - 1))) := by
  rw [Bool.eq_iff_iff]
  simp only [Bool.or_eq_true, Bool.and_eq_true, decide_eq_true_iff]
  unfold rowL
  rw [laid_snoc_run h, laid_snoc_run h]
  constructor
  · rintro ⟨ys, zs, e, hl⟩
    by_cases hz : zs = []
    · subst hz; rw [List.append_nil] at e; rw [e]; exact .inl hl
    · have hlen := congrArg List.length e
      have hz' : 0 < zs.length := List.length_pos_iff.2 hz
      rw [List.length_take, Nat.min_eq_left hk, List.length_append] at hlen
      refine .inr ⟨by omega, ys, zs.take (k - 1 - ys.length), ?_, hl⟩
      have : xs.take (k - 1) = (xs.take k).take (k - 1) := by rw [List.take_take, Nat.min_eq_left (by omega)]
      rw [this, e, List.take_append, List.take_of_length_le (by omega : ys.length ≤ k - 1)]
  · rintro (hl | ⟨h0, ys, zs, e, hl⟩)
    · exact ⟨xs.take k, [], by simp, hl⟩
    · refine ⟨ys, zs ++ [xs[k - 1]'(by omega)], ?_, hl⟩
      rw [← List.append_assoc, ← e]
      conv => lhs; rw [show k = k - 1 + 1 by omega]
      exact List.take_succ_eq_append_getElem (by omega)

theorem row_one0 {p : T} (h : run p = false) (ps xs : List T) : rowL run takes (ps ++ [p]) xs 0 = false := by
  rw [Bool.eq_false_iff]
  unfold rowL
  rw [Ne, laid_snoc_one h]
  rintro ⟨ys, z, e, _⟩
  simp at e

theorem row_one {p : T} (h : run p = false) (ps xs : List T) {k : Nat} (hk : k < xs.length) : rowL run takes (ps ++ [p]) xs (k + 1) = (takes p xs[k] && rowL run takes ps xs k) := by
  rw [Bool.eq_iff_iff]
  simp only [Bool.and_eq_true]
  unfold rowL
  rw [laid_snoc_one h, List.take_succ_eq_append_getElem hk]
  constructor
  · rintro ⟨ys, z, e, h1, h2⟩
    obtain ⟨rfl, e2⟩ := List.append_inj' e rfl
    simp at e2
    rw [e2]
    exact ⟨h1, h2⟩
  · rintro ⟨h1, h2⟩
    exact ⟨_, _, rfl, h1, h2⟩

theorem row_end (ps xs : List T) : rowL run takes ps xs xs.length = laidL run takes ps xs := by unfold rowL; rw [List.take_length]

end
end Go.Proofs.YtdcbgfhkfmohiaaGreatDoor
