/- Maps: a listing as a key; finding, storing and deleting in a register. -/
import Derived.Test.YtdcbgfhkfmohiaaGreatDoorEd09
import Derived.LaidEql
import Derived.ChangeKeysEq
import Derived.WideKeyRuns
import Derived.MapKept
namespace Go.Proofs.YtdcbgfhkfmohiaaGreatDoor
open Go.RowKit

/-- A node's value, or none; its block is there. -/
def NodeV (w : World) (v : Value) : Prop :=
  v = .nilIface ∨ (∃ b c, v = fileV b ∧ w.heap[b]? = some (.cells c 135 (0, 0))) ∨ (∃ b c, v = dirV b ∧ w.heap[b]? = some (.cells c 149 (0, 0)))

theorem info_some {P : Program} {t : TypeId} {c : Bool} (h : (P.info? t).map (·.comparable) = some c) : ∃ i, P.info? t = some i ∧ i.comparable = c := by
  cases hi : P.info? t with
  | none => rw [hi] at h; simp at h
  | some i => rw [hi] at h; exact ⟨i, rfl, by simpa using h⟩
theorem info_size {P : Program} {t : TypeId} {n : Nat} (h : (P.info? t).map (·.size) = some n) : ∃ i, P.info? t = some i ∧ i.size = n := by
  cases hi : P.info? t with
  | none => rw [hi] at h; simp at h
  | some i => rw [hi] at h; exact ⟨i, rfl, by simpa using h⟩

theorem ptr_eq {w : World} (d : Nat) {tp te : TypeId} {n : Nat} {b b' : Nat} {c c' : Array Value} (hp : Tryz.prog.underlying tp = some (.pointer te)) (hc : (Tryz.prog.info? tp).map (·.comparable) = some true) (hs : (Tryz.prog.info? te).map (·.size) = some (n + 1))
    (hb : w.heap[b]? = some (.cells c te (0, 0))) (hb' : w.heap[b']? = some (.cells c' te (0, 0))) :
    ∃ r : Bool, (Op.equalIn (d + 2) 99 (.iface tp (.pointer (some ⟨b, 0, none⟩))) (.iface tp (.pointer (some ⟨b', 0, none⟩)))).run Tryz.prog w = .ok r w ∧ (r = true ↔ b = b') := by
  obtain ⟨i, hi, hic⟩ := info_some hc
  obtain ⟨j, hj, hjs⟩ := info_size hs
  by_cases e : b = b'
  · subst e
    exact ⟨true, run_equalIn_iface_ptr_same w d _ Tryz.underlying99 hp hi hic hj, by simp⟩
  · exact ⟨false, run_equalIn_iface_ptr_other w d Tryz.underlying99 hp hi hic hj (by omega) (fun h => e (congrArg Addr.block h)) hb hb', by simp [e]⟩

theorem node_eq {w : World} (d : Nat) {v v' : Value} (h : NodeV w v) (h' : NodeV w v') : ∃ r : Bool, (Op.equalIn (d + 2) 99 v v').run Tryz.prog w = .ok r w ∧ (r = true ↔ v = v') := by
  have hu := Tryz.underlying99
  rcases h with rfl | ⟨b, c, rfl, hb⟩ | ⟨b, c, rfl, hb⟩ <;> rcases h' with rfl | ⟨b', c', rfl, hb'⟩ | ⟨b', c', rfl, hb'⟩
  · exact ⟨true, by rw [Op.equalIn]; simp only [Sem.run_bind, run_underlying hu, Result.andThen_ok]; rfl, by simp⟩
  · exact ⟨false, by rw [Op.equalIn]; simp only [Sem.run_bind, run_underlying hu, Result.andThen_ok]; rfl, by simp⟩
  · exact ⟨false, by rw [Op.equalIn]; simp only [Sem.run_bind, run_underlying hu, Result.andThen_ok]; rfl, by simp⟩
  · exact ⟨false, by rw [Op.equalIn]; simp only [Sem.run_bind, run_underlying hu, Result.andThen_ok]; rfl, by simp⟩
  · obtain ⟨r, h1, h2⟩ := ptr_eq (w := w) d (n := 1) (b := b) (b' := b') Tryz.underlying131 (by kernel_rfl) (by kernel_rfl) hb hb'
    exact ⟨r, h1, by rw [h2]; simp⟩
  · exact ⟨false, by rw [Op.equalIn]; simp only [Sem.run_bind, run_underlying hu, Result.andThen_ok]; rfl, by simp⟩
  · exact ⟨false, by rw [Op.equalIn]; simp only [Sem.run_bind, run_underlying hu, Result.andThen_ok]; rfl, by simp⟩
  · exact ⟨false, by rw [Op.equalIn]; simp only [Sem.run_bind, run_underlying hu, Result.andThen_ok]; rfl, by simp⟩
  · obtain ⟨r, h1, h2⟩ := ptr_eq (w := w) d (n := 41) (b := b) (b' := b') Tryz.underlying89 (by kernel_rfl) (by kernel_rfl) hb hb'
    exact ⟨r, h1, by rw [h2]; simp⟩

theorem run_part_one {P : Program} {w : World} {t : TypeId} {d : TypeDesc} {cs : Array Value} {off : Nat} {v : Value} (hu : P.underlying t = some d) (hd : (match d with | .struct _ | .array _ _ => true | _ => false) = false) (h : cs[off]? = some v) : (part t cs off).run P w = .ok v w := by
  have hagg : (isAgg t).run P w = .ok false w := by
    unfold isAgg; rw [Sem.run_bind, run_underlying hu w]; cases d <;> simp_all
  simp [part, Sem.run_bind, hagg, h]
theorem run_part_agg {P : Program} {w : World} {t : TypeId} {d : TypeDesc} {cs : Array Value} {off n : Nat} (hu : P.underlying t = some d) (hd : (match d with | .struct _ | .array _ _ => true | _ => false) = true) (hs : (P.info? t).map (·.size) = some n) : (part t cs off).run P w = .ok (.agg (cs.extract off (off + n))) w := by
  obtain ⟨j, hj, hjs⟩ := info_size hs
  have hagg : (isAgg t).run P w = .ok true w := by
    unfold isAgg; rw [Sem.run_bind, run_underlying hu w]; cases d <;> simp_all
  simp [part, Sem.run_bind, hagg, sizeOf, typeInfo, hj, hjs]

theorem fields_of {P : Program} {t : TypeId} {fs : Array Field} (h : P.underlying t = some (.struct fs)) : P.fieldsOf t = fs := by unfold Program.fieldsOf; rw [h]

theorem two_fields {P : Program} {w : World} {d : Nat} {xs ys : Array Value} {f g : Field} {a b c e : Value} {r1 r2 : Bool} (hf : f.name ≠ "_") (hg : g.name ≠ "_")
    (p1 : (part f.type xs f.offset).run P w = .ok a w) (p2 : (part f.type ys f.offset).run P w = .ok b w) (e1 : (Op.equalIn d f.type a b).run P w = .ok r1 w)
    (p3 : (part g.type xs g.offset).run P w = .ok c w) (p4 : (part g.type ys g.offset).run P w = .ok e w) (e2 : (Op.equalIn d g.type c e).run P w = .ok r2 w) : (Op.eqFields d xs ys [f, g]).run P w = .ok (r1 && r2) w := by
  rw [Op.eqFields, if_pos hf]
  simp only [Sem.run_bind, p1, p2, e1, Result.andThen_ok]
  cases r1
  · rfl
  · simp only [Bool.not_true, Bool.false_eq_true, if_false]
    rw [Op.eqFields, if_pos hg]
    simp only [Sem.run_bind, p3, p4, e2, Result.andThen_ok]
    cases r2 <;> rfl

theorem entry_eq {w : World} (d : Nat) {a a' : Str} {v v' : Value} (h : NodeV w v) (h' : NodeV w v') :
    ∃ r : Bool, (Op.equalIn (d + 3) 101 (.agg #[SV a, v]) (.agg #[SV a', v'])).run Tryz.prog w = .ok r w ∧ (r = true ↔ a = a' ∧ v = v') := by
  obtain ⟨r, h1, h2⟩ := node_eq d h h'
  have hf := fields_of Tryz.underlying101
  rw [run_equalIn_struct w (d + 2) 101 _ _ (by rw [hf]; exact Tryz.underlying101) (by kernel_rfl), hf]
  have p1 : (part 9 #[SV a, v] 0).run Tryz.prog w = .ok (SV a) w := run_part_one Tryz.underlying9 rfl rfl
  have p2 : (part 9 #[SV a', v'] 0).run Tryz.prog w = .ok (SV a') w := run_part_one Tryz.underlying9 rfl rfl
  have p3 : (part 99 #[SV a, v] 1).run Tryz.prog w = .ok v w := run_part_one Tryz.underlying99 rfl rfl
  have p4 : (part 99 #[SV a', v'] 1).run Tryz.prog w = .ok v' w := run_part_one Tryz.underlying99 rfl rfl
  have hs : (Op.equalIn (d + 2) 9 (SV a) (SV a')).run Tryz.prog w = .ok (a == a') w := by
    rw [run_equalIn_string w (d + 1) _ _ _ Tryz.underlying9]; simp [ByteArray.toList_eq]
  exact ⟨(a == a') && r, two_fields (by simp) (by simp) p1 p2 hs p3 p4 h1, by simp [h2]⟩

/-- The entry at a place, an empty one behind the last. -/
def entAt (vs : List (Str × Value)) (i : Nat) : Str × Value := vs[i]?.getD ([], .nilIface)

theorem padE_get (n i : Nat) (h : i < n) : (padE n)[i * 2]? = some (SV []) ∧ (padE n)[i * 2 + 1]? = some .nilIface := by
  induction n generalizing i with
  | zero => omega
  | succ n ih =>
    rw [padE_succ]
    cases i with
    | zero => exact ⟨rfl, rfl⟩
    | succ i =>
      have := ih i (by omega)
      rw [show (i + 1) * 2 = i * 2 + 2 from by omega, show i * 2 + 2 + 1 = (i * 2 + 1) + 2 from by omega]
      simpa using this
theorem listCells_ent {vs : List (Str × Value)} (hl : vs.length ≤ 20) {i : Nat} (hi : i < 20) : (listCells vs)[i * 2 + 1]? = some (SV (entAt vs i).1) ∧ (listCells vs)[i * 2 + 2]? = some (entAt vs i).2 := by
  by_cases h : i < vs.length
  · have := listCells_name h
    unfold entAt; rw [List.getElem?_eq_getElem h]; exact this
  · have hf : (flatE vs).length = vs.length * 2 := flatE_len vs
    have hp := padE_get (20 - vs.length) (i - vs.length) (by omega)
    rw [listCells_eq, List.getElem?_cons_succ, show i * 2 + 2 = (i * 2 + 1) + 1 from rfl, List.getElem?_cons_succ, List.getElem?_append_right (by omega), List.getElem?_append_right (by omega), hf,
      show i * 2 - vs.length * 2 = (i - vs.length) * 2 from by omega, show i * 2 + 1 - vs.length * 2 = (i - vs.length) * 2 + 1 from by omega]
    have e0 : vs[i]? = none := List.getElem?_eq_none (by omega)
    unfold entAt; rw [e0]; exact hp

def Nodes (w : World) (vs : List (Str × Value)) : Prop := vs.length ≤ 20 ∧ ∀ e ∈ vs, NodeV w e.2
theorem Nodes.ent {w : World} {vs : List (Str × Value)} (h : Nodes w vs) (i : Nat) : NodeV w (entAt vs i).2 := by
  unfold entAt
  cases hx : vs[i]? with
  | none => exact .inl rfl
  | some e => exact h.2 e (List.mem_of_getElem? hx)

theorem part_ent {w : World} {vs : List (Str × Value)} (hl : vs.length ≤ 20) {i : Nat} (hi : i < 20) (cs : Array Value) (hcs : cs = (listCells vs).toArray.extract 1 (1 + 40)) : (part 101 cs (i * 2)).run Tryz.prog w = .ok (.agg #[SV (entAt vs i).1, (entAt vs i).2]) w := by
  rw [run_part_agg (n := 2) Tryz.underlying101 rfl (by kernel_rfl)]
  congr 2
  have hlen := listCells_len hl
  obtain ⟨h1, h2⟩ := listCells_ent hl hi
  subst hcs
  apply Array.ext'
  apply List.ext_getElem?
  intro j
  simp only [Array.toList_extract, List.extract_eq_take_drop, List.drop_take, List.getElem?_take, List.getElem?_drop]
  match j with
  | 0 => rw [if_pos (by omega), if_pos (by omega), show 1 + (i * 2 + 0) = i * 2 + 1 from by omega, h1]; rfl
  | 1 => rw [if_pos (by omega), if_pos (by omega), show 1 + (i * 2 + 1) = i * 2 + 2 from by omega, h2]; rfl
  | j + 2 => rw [if_neg (by omega)]; rfl

theorem items_eq {w : World} {vs vs' : List (Str × Value)} (h : Nodes w vs) (h' : Nodes w vs') (d : Nat) (is : List Nat) (his : ∀ i ∈ is, i < 20) :
    ∃ r : Bool, (Op.eqItems (d + 3) 101 2 ((listCells vs).toArray.extract 1 (1 + 40)) ((listCells vs').toArray.extract 1 (1 + 40)) is).run Tryz.prog w = .ok r w ∧ (r = true ↔ ∀ i ∈ is, entAt vs i = entAt vs' i) := by
  induction is with
  | nil => exact ⟨true, by simp [Op.eqItems], by simp⟩
  | cons i is ih =>
    obtain ⟨r, h1, h2⟩ := ih (fun j hj => his j (by simp [hj]))
    have hi := his i (by simp)
    have p1 := part_ent (w := w) h.1 hi _ rfl
    have p2 := part_ent (w := w) h'.1 hi _ rfl
    obtain ⟨q, e1, e2⟩ := entry_eq (w := w) d (a := (entAt vs i).1) (a' := (entAt vs' i).1) (h.ent i) (h'.ent i)
    cases q
    · refine ⟨false, ?_, ?_⟩
      · simp only [Op.eqItems, Sem.run_bind, p1, p2, e1, Result.andThen_ok]; simp
      · simp only [Bool.false_eq_true, false_iff]
        intro hall
        have := hall i (by simp)
        exact absurd (e2.2 ⟨by rw [this], by rw [this]⟩) (by simp)
    · refine ⟨r, ?_, ?_⟩
      · simp only [Op.eqItems, Sem.run_bind, p1, p2, e1, Result.andThen_ok]; simpa using h1
      · rw [h2]
        have := e2.1 rfl
        constructor
        · intro hall j hj
          simp at hj; rcases hj with rfl | hj
          · exact Prod.ext this.1 this.2
          · exact hall j hj
        · intro hall j hj; exact hall j (by simp [hj])

theorem ents_same {vs vs' : List (Str × Value)} (hl : vs.length ≤ 20) (hl' : vs'.length ≤ 20) : (vs.length = vs'.length ∧ ∀ i ∈ List.range 20, entAt vs i = entAt vs' i) ↔ vs = vs' := by
  constructor
  · rintro ⟨h1, h2⟩
    apply List.ext_getElem?
    intro i
    by_cases hi : i < vs.length
    · have := h2 i (by simp; omega)
      unfold entAt at this
      rw [List.getElem?_eq_getElem hi, List.getElem?_eq_getElem (by omega)] at this ⊢
      simpa using this
    · rw [List.getElem?_eq_none (by omega), List.getElem?_eq_none (by omega)]
  · rintro rfl; exact ⟨rfl, fun _ _ => rfl⟩

/-- Two listings as keys. -/
theorem listing_eq {w : World} {vs vs' : List (Str × Value)} (h : Nodes w vs) (h' : Nodes w vs') :
    ∃ r : Bool, (Op.equal 147 (.agg (listCells vs).toArray) (.agg (listCells vs').toArray)).run Tryz.prog w = .ok r w ∧ (r = true ↔ vs = vs') := by
  obtain ⟨r, h1, h2⟩ := items_eq h h' 9995 (List.range 20) (by simp)
  have hf := fields_of Tryz.underlying147
  obtain ⟨j, hj, hjs⟩ := info_size (P := Tryz.prog) (t := 101) (n := 2) (by kernel_rfl)
  have hce : Tryz.prog.cellsOf 101 = 2 := by kernel_rfl
  unfold Op.equal Op.maxDepth
  rw [run_equalIn_struct w 9999 147 _ _ (by rw [hf]; exact Tryz.underlying147) (by kernel_rfl), hf]
  have p1 : (part 3 (listCells vs).toArray 0).run Tryz.prog w = .ok (.int .i64 vs.length) w := run_part_one Tryz.underlying3 rfl rfl
  have p2 : (part 3 (listCells vs').toArray 0).run Tryz.prog w = .ok (.int .i64 vs'.length) w := run_part_one Tryz.underlying3 rfl rfl
  have p3 : (part 145 (listCells vs).toArray 1).run Tryz.prog w = .ok (.agg ((listCells vs).toArray.extract 1 (1 + 40))) w := run_part_agg Tryz.underlying145 rfl (by kernel_rfl)
  have p4 : (part 145 (listCells vs').toArray 1).run Tryz.prog w = .ok (.agg ((listCells vs').toArray.extract 1 (1 + 40))) w := run_part_agg Tryz.underlying145 rfl (by kernel_rfl)
  have hn : (Op.equalIn 9999 3 (.int .i64 vs.length) (.int .i64 vs'.length)).run Tryz.prog w = .ok ((vs.length : Int) == (vs'.length : Int)) w := run_equalIn_int w 9998 _ _ _ _ _ Tryz.underlying3
  have ha := run_equalIn_array (P := Tryz.prog) w 9998 ((listCells vs).toArray.extract 1 (1 + 40)) ((listCells vs').toArray.extract 1 (1 + 40)) Tryz.underlying145 hj
  rw [hce, h1] at ha
  refine ⟨((vs.length : Int) == (vs'.length : Int)) && r, two_fields (by simp) (by simp) p1 p2 hn p3 p4 ha, ?_⟩
  rw [← ents_same h.1 h'.1, Bool.and_eq_true, h2, beq_iff_eq]
  simp only [Int.natCast_inj]

end Go.Proofs.YtdcbgfhkfmohiaaGreatDoor

/- Maps: finding, storing, deleting; the steps of a walk. -/
namespace Go.Proofs.YtdcbgfhkfmohiaaGreatDoor
open Go.RowKit

theorem node_check {w : World} (n : Nat) (em : Bool) {v : Value} (h : NodeV w v) : (Instr.checkKey em (n + 2) 99 v).run Tryz.prog w = .ok () w := by
  have hu := Tryz.underlying99
  rcases h with rfl | ⟨b, c, rfl, hb⟩ | ⟨b, c, rfl, hb⟩
  · simp [Instr.checkKey, run_underlying hu]
  · obtain ⟨i, hi, hic⟩ := info_some (P := Tryz.prog) (t := 131) (c := true) (by kernel_rfl)
    simp [Instr.checkKey, run_underlying hu, run_underlying Tryz.underlying131, typeInfo, hi, hic]
  · obtain ⟨i, hi, hic⟩ := info_some (P := Tryz.prog) (t := 89) (c := true) (by kernel_rfl)
    simp [Instr.checkKey, run_underlying hu, run_underlying Tryz.underlying89, typeInfo, hi, hic]

theorem entry_check {w : World} (n : Nat) (em : Bool) {a : Str} {v : Value} (h : NodeV w v) : (Instr.checkKey em (n + 3) 101 (.agg #[SV a, v])).run Tryz.prog w = .ok () w := by
  have p1 : (part 9 #[SV a, v] 0).run Tryz.prog w = .ok (SV a) w := run_part_one Tryz.underlying9 rfl rfl
  have p3 : (part 99 #[SV a, v] 1).run Tryz.prog w = .ok v w := run_part_one Tryz.underlying99 rfl rfl
  have c1 : (Instr.checkKey em (n + 2) 9 (SV a)).run Tryz.prog w = .ok () w := by simp [Instr.checkKey, run_underlying Tryz.underlying9]
  have c2 := node_check (w := w) n em h
  rw [Instr.checkKey]
  simp only [Sem.run_bind, run_underlying Tryz.underlying101, Result.andThen_ok]
  rw [← Array.forIn_toList]
  simp [p1, p3, c1, c2]

theorem array_check {w : World} {vs : List (Str × Value)} (h : Nodes w vs) (n : Nat) (em : Bool) : (Instr.checkKey em (n + 4) 145 (.agg ((listCells vs).toArray.extract 1 (1 + 40)))).run Tryz.prog w = .ok () w := by
  obtain ⟨j, hj, hjs⟩ := info_size (P := Tryz.prog) (t := 101) (n := 2) (by kernel_rfl)
  have hso : (sizeOf 101).run Tryz.prog w = .ok 2 w := by simp [sizeOf, typeInfo, hj, hjs]
  rw [Instr.checkKey]
  simp only [Sem.run_bind, run_underlying Tryz.underlying145, Result.andThen_ok]
  simp only [Std.Legacy.Range.forIn_eq_forIn_range', Std.Legacy.Range.size, Nat.sub_zero, Nat.add_one_sub_one, Nat.div_one]
  have each : ∀ i ∈ List.range' 0 20, i < 20 := by intro i hi; simp at hi; omega
  generalize List.range' 0 20 = is at each
  induction is with
  | nil => simp
  | cons i is ih =>
    have p1 := part_ent (w := w) h.1 (each i (by simp)) _ rfl
    have p2 := entry_check (w := w) n em (a := (entAt vs i).1) (h.ent i)
    simp only [List.forIn_cons, Sem.run_bind, hso, Result.andThen_ok, p1, p2, Sem.run_pure]
    exact ih (fun y hy => each y (by simp [hy]))

theorem listing_check {w : World} {vs : List (Str × Value)} (h : Nodes w vs) (em : Bool) : (Instr.checkKey em 10000 147 (.agg (listCells vs).toArray)).run Tryz.prog w = .ok () w := by
  have p1 : (part 3 (listCells vs).toArray 0).run Tryz.prog w = .ok (.int .i64 vs.length) w := run_part_one Tryz.underlying3 rfl rfl
  have p3 : (part 145 (listCells vs).toArray 1).run Tryz.prog w = .ok (.agg ((listCells vs).toArray.extract 1 (1 + 40))) w := run_part_agg Tryz.underlying145 rfl (by kernel_rfl)
  have c1 : (Instr.checkKey em 9999 3 (.int .i64 vs.length)).run Tryz.prog w = .ok () w := by
    rw [show (9999 : Nat) = 9998 + 1 from rfl, Instr.checkKey]; simp [run_underlying Tryz.underlying3]
  have c2 := array_check h 9995 em
  rw [show (10000 : Nat) = 9999 + 1 from rfl, Instr.checkKey]
  simp only [Sem.run_bind, run_underlying Tryz.underlying147, Result.andThen_ok]
  rw [← Array.forIn_toList]
  simp only [List.forIn_cons, List.forIn_nil, Sem.run_bind]
  simp only [ne_eq, String.reduceEq, not_false_eq_true, if_true, Sem.run_bind, p1, p3, c1, Result.andThen_ok, Sem.run_pure]
  simp only [show (9995 + 4 : Nat) = 9999 from rfl] at c2
  simp only [c2, Result.andThen_ok]
  rfl

/-- The entries of a map, in their order, are those of a list. -/
def Holds {α : Type} (es : Array MapEntry) (K V : α → Value) (L : List α) : Prop := es.toList.map (fun e => (e.key, e.val)) = L.map fun x => (K x, V x)

theorem find_asking {α : Type} {P : Program} {w : World} {kt : TypeId} {K V : α → Value} {key : Value} {x0 : α} : ∀ (L : List α) (es : List MapEntry) (i : Nat), es.map (fun e => (e.key, e.val)) = L.map (fun x => (K x, V x)) →
    (∀ x ∈ L, ∃ r : Bool, (Op.equal kt key (K x)).run P w = .ok r w ∧ (r = true ↔ x0 = x)) →
    (x0 ∉ L ∧ (Instr.findAsking kt key es i).run P w = .ok none w) ∨ (∃ j, L[j]? = some x0 ∧ (Instr.findAsking kt key es i).run P w = .ok (some (i + j, V x0)) w)
  | [], es, i, he, _ => by
    cases es with
    | nil => exact .inl ⟨by simp, by simp [Instr.findAsking]⟩
    | cons => simp at he
  | x :: L, es, i, he, hq => by
    cases es with
    | nil => simp at he
    | cons e es =>
      simp only [List.map_cons, List.cons.injEq, Prod.mk.injEq] at he
      obtain ⟨r, hr, hiff⟩ := hq x (by simp)
      rw [← he.1.1] at hr
      cases r
      · have hne : x0 ≠ x := fun h => absurd (hiff.2 h) (by simp)
        rcases find_asking L es (i + 1) he.2 (fun y hy => hq y (by simp [hy])) with ⟨h1, h2⟩ | ⟨j, h1, h2⟩
        · exact .inl ⟨by simp [hne, h1], by simp [Instr.findAsking, hr, h2]⟩
        · exact .inr ⟨j + 1, by simpa using h1, by simp [Instr.findAsking, hr, h2, Nat.add_assoc, Nat.add_comm 1 j]⟩
      · have e0 := hiff.1 rfl
        subst e0
        exact .inr ⟨0, rfl, by simp [Instr.findAsking, hr, he.1.2]⟩

theorem find_now {α : Type} {d : TypeDesc} {K V : α → Value} {key : Value} {x0 : α} : ∀ (L : List α) (es : List MapEntry) (i : Nat), es.map (fun e => (e.key, e.val)) = L.map (fun x => (K x, V x)) →
    (∀ x ∈ L, ∃ r : Bool, Instr.sameNow d key (K x) = some r ∧ (r = true ↔ x0 = x)) →
    (x0 ∉ L ∧ Instr.findNow d key es i = some none) ∨ (∃ j, L[j]? = some x0 ∧ Instr.findNow d key es i = some (some (i + j, V x0)))
  | [], es, i, he, _ => by
    cases es with
    | nil => exact .inl ⟨by simp, by simp [Instr.findNow]⟩
    | cons => simp at he
  | x :: L, es, i, he, hq => by
    cases es with
    | nil => simp at he
    | cons e es =>
      simp only [List.map_cons, List.cons.injEq, Prod.mk.injEq] at he
      obtain ⟨r, hr, hiff⟩ := hq x (by simp)
      rw [← he.1.1] at hr
      cases r
      · have hne : x0 ≠ x := fun h => absurd (hiff.2 h) (by simp)
        rcases find_now L es (i + 1) he.2 (fun y hy => hq y (by simp [hy])) with ⟨h1, h2⟩ | ⟨j, h1, h2⟩
        · exact .inl ⟨by simp [hne, h1], by simp [Instr.findNow, hr, h2]⟩
        · exact .inr ⟨j + 1, by simpa using h1, by simp [Instr.findNow, hr, h2, Nat.add_assoc, Nat.add_comm 1 j]⟩
      · have e0 := hiff.1 rfl
        subst e0
        exact .inr ⟨0, rfl, by simp [Instr.findNow, hr, he.1.2]⟩

/-- What finding a key in a map gives, in this world. -/
def Finds {α : Type} (w : World) (kt : TypeId) (key : Value) (es : Array MapEntry) (V : α → Value) (L : List α) (x0 : α) : Prop :=
  (∀ em, (Instr.checkKey em 10000 kt key).run Tryz.prog w = .ok () w) ∧
  ((x0 ∉ L ∧ (Instr.findKey kt key es.toList).run Tryz.prog w = .ok none w) ∨ (∃ j, L[j]? = some x0 ∧ (Instr.findKey kt key es.toList).run Tryz.prog w = .ok (some (j, V x0)) w))

theorem finds_listing {α : Type} {w : World} {es : Array MapEntry} {V : α → Value} {L : List α} {g : α → List (Str × Value)} {x0 : α} (hh : Holds es (fun x => .agg (listCells (g x)).toArray) V L) (h0 : Nodes w (g x0)) (hL : ∀ x ∈ L, Nodes w (g x)) (hinj : ∀ x ∈ L, g x0 = g x → x0 = x) :
    Finds w 147 (.agg (listCells (g x0)).toArray) es V L x0 := by
  refine ⟨fun em => listing_check h0 em, ?_⟩
  have hfk := run_findKey_eq (P := Tryz.prog) (w := w) (k := 147) (by rw [Tryz.underlying147]) (.agg (listCells (g x0)).toArray) es.toList
  rw [hfk]
  have := find_asking (P := Tryz.prog) (w := w) (kt := 147) (V := V) (key := .agg (listCells (g x0)).toArray) (x0 := x0) L es.toList 0 hh (fun x hx => by
    obtain ⟨r, h1, h2⟩ := listing_eq h0 (hL x hx)
    exact ⟨r, h1, by rw [h2]; exact ⟨hinj x hx, fun h => by rw [h]⟩⟩)
  simpa using this

theorem sv_beq (a b : Str) : ((⟨a.toArray⟩ : ByteArray) == ⟨b.toArray⟩) = (a == b) := by
  rw [beq_toListBytes, ByteArray.toList_eq, ByteArray.toList_eq]

theorem finds_string {w : World} {es : Array MapEntry} {V : Str → Value} {L : List Str} {x0 : Str} (hh : Holds es (fun x => SV x) V L) : Finds w 9 (SV x0) es V L x0 := by
  refine ⟨fun em => by rw [show (10000 : Nat) = 9999 + 1 from rfl, Instr.checkKey]; simp [run_underlying Tryz.underlying9], ?_⟩
  have := find_now (d := .string) (V := V) (key := SV x0) (x0 := x0) L es.toList 0 hh (fun x _ => ⟨x0 == x, by simp only [Instr.sameNow, sv_beq], by simp⟩)
  rcases this with ⟨h1, h2⟩ | ⟨j, h1, h2⟩
  · exact .inl ⟨h1, MapKept.run_findKey Tryz.underlying9 h2⟩
  · exact .inr ⟨j, h1, by rw [MapKept.run_findKey Tryz.underlying9 h2]; simp⟩

theorem finds_int {α : Type} {w : World} {es : Array MapEntry} {V : α → Value} {L : List α} {g : α → Int} {x0 : α} (hh : Holds es (fun x => .int .i64 (g x)) V L) (hinj : ∀ x ∈ L, g x0 = g x → x0 = x) : Finds w 3 (.int .i64 (g x0)) es V L x0 := by
  refine ⟨fun em => by rw [show (10000 : Nat) = 9999 + 1 from rfl, Instr.checkKey]; simp [run_underlying Tryz.underlying3], ?_⟩
  have := find_now (d := .int .i64) (V := V) (key := .int .i64 (g x0)) (x0 := x0) L es.toList 0 hh (fun x hx => ⟨g x0 == g x, by simp [Instr.sameNow], by rw [beq_iff_eq]; exact ⟨hinj x hx, fun h => by rw [h]⟩⟩)
  rcases this with ⟨h1, h2⟩ | ⟨j, h1, h2⟩
  · exact .inl ⟨h1, MapKept.run_findKey Tryz.underlying3 h2⟩
  · exact .inr ⟨j, h1, by rw [MapKept.run_findKey Tryz.underlying3 h2]; simp⟩

/-- One block has turned, and nothing else. -/
structure Set1 (w w' : World) (r : Nat) (o : Obj) : Prop where
  os : w'.os = w.os
  tape : w'.tape = w.tape
  output : w'.output = w.output
  size : w'.heap.size = w.heap.size
  here : w'.heap[r]? = some o
  other : ∀ k, k ≠ r → w'.heap[k]? = w.heap[k]?

theorem set1_of {w : World} {r : Nat} {o o' : Obj} (h : w.heap[r]? = some o) : Set1 w { w with heap := w.heap.setIfInBounds r o' } r o' := by
  have hr := (Array.getElem?_eq_some_iff.1 h).1
  exact ⟨rfl, rfl, rfl, by simp, by simp [hr], fun k hk => by simp [Ne.symm hk]⟩

theorem map_erase {β γ : Type} (f : β → γ) (l : List β) (j : Nat) : (l.eraseIdx j).map f = (l.map f).eraseIdx j := by
  induction l generalizing j with
  | nil => rfl
  | cons a l ih => cases j with
    | zero => rfl
    | succ j => simp [ih]

section
variable {α : Type} {w : World} {t kt et : TypeId} {key : Value} {es : Array MapEntry} {V : α → Value} {L : List α} {x0 : α} {r clock : Nat}

theorem run_lookup_in (hu : Tryz.prog.underlying t = some (.map kt et)) (hb : w.heap[r]? = some (.map es clock)) (hf : Finds w kt key es V L x0) (hin : x0 ∈ L) : (Instr.lookup t (.map (some r)) key false).run Tryz.prog w = .ok (V x0) w := by
  rcases hf.2 with ⟨h1, _⟩ | ⟨j, _, h2⟩
  · exact absurd hin h1
  · simp [Instr.lookup, run_underlying hu, MapKept.run_getObj_map hb, hf.1, h2, Result.andThen]
theorem run_lookup_out (hu : Tryz.prog.underlying t = some (.map kt et)) (hb : w.heap[r]? = some (.map es clock)) (hf : Finds w kt key es V L x0) (hout : x0 ∉ L) {z : Value} (hz : (zeroValue et).run Tryz.prog w = .ok z w) : (Instr.lookup t (.map (some r)) key false).run Tryz.prog w = .ok z w := by
  rcases hf.2 with ⟨_, h2⟩ | ⟨j, h1, _⟩
  · simp [Instr.lookup, run_underlying hu, MapKept.run_getObj_map hb, hf.1, h2, Result.andThen, hz]
  · exact absurd (List.mem_of_getElem? h1) hout

theorem run_mapUpdate_new (hu : Tryz.prog.underlying t = some (.map kt et)) (hb : w.heap[r]? = some (.map es clock)) (hf : Finds w kt key es V L x0) (hout : x0 ∉ L) (v : Value) :
    ∃ w', (Instr.mapUpdate t (.map (some r)) key v).run Tryz.prog w = .ok () w' ∧ Set1 w w' r (.map (es.push { key := key, val := v, born := clock }) (clock + 1)) := by
  rcases hf.2 with ⟨_, h2⟩ | ⟨j, h1, _⟩
  · exact ⟨_, by simp [Instr.mapUpdate, run_underlying hu, MapKept.run_getObj_map hb, hf.1, h2, MapKept.run_setObj_map _ hb, Result.andThen], set1_of hb⟩
  · exact absurd (List.mem_of_getElem? h1) hout

theorem run_delete_in (hu : Tryz.prog.underlying t = some (.map kt et)) (hb : w.heap[r]? = some (.map es clock)) (hf : Finds w kt key es V L x0) (hin : x0 ∈ L) (ty : TypeId) :
    ∃ w' j, L[j]? = some x0 ∧ (Builtin.delete_ #[t, kt] ty #[.map (some r), key]).run Tryz.prog w = .ok (.tuple #[]) w' ∧ Set1 w w' r (.map (es.eraseIdxIfInBounds j) clock) := by
  rcases hf.2 with ⟨h1, _⟩ | ⟨j, h1, h2⟩
  · exact absurd hin h1
  · exact ⟨_, j, h1, by simp [Builtin.delete_, run_underlying hu, MapKept.run_getObj_map hb, hf.1, h2, MapKept.run_setObj_map _ hb, Result.andThen], set1_of hb⟩

theorem Holds.push {K : α → Value} (h : Holds es K V L) {x : α} (hk : key = K x) {b : Nat} : Holds (es.push { key := key, val := V x, born := b }) K V (L ++ [x]) := by
  unfold Holds at *; simp [h, hk]
theorem Holds.erase {K : α → Value} (h : Holds es K V L) (j : Nat) : Holds (es.eraseIdxIfInBounds j) K V (L.eraseIdx j) := by
  unfold Holds at *
  have hlen : es.size = L.length := by have := congrArg List.length h; simpa using this
  unfold Array.eraseIdxIfInBounds
  split
  · rename_i hj
    rw [Array.toList_eraseIdx, map_erase, map_erase, h]
  · rename_i hj
    rw [List.eraseIdx_of_length_le (by omega)]; exact h
theorem Holds.len {K : α → Value} (h : Holds es K V L) : es.size = L.length := by have := congrArg List.length h; simpa using this
end

end Go.Proofs.YtdcbgfhkfmohiaaGreatDoor

/- What a store keeps, by trees; and how it lies in memory. -/
namespace Go.Proofs.YtdcbgfhkfmohiaaGreatDoor
open Go.RowKit

/-- A store: its block and its registers (rr: that of its rules), room, the next number; which trees and data are kept, in the registers' order; the snapshots; where each node lies, and its users. -/
structure Bank where
  sb : Nat
  rs : Nat
  rd : Nat
  rf : Nat
  rr : Nat
  room : Nat
  made : Nat
  ds : List Ents
  fs : List Str
  ss : List (Nat × Ents)
  ad : Tree → Nat
  us : Tree → Nat

def Bank.has (B : Bank) : Tree → Prop
  | .file d => d ∈ B.fs
  | .dir es => es ∈ B.ds
def Bank.reg (B : Bank) (b : Nat) : Prop := ∃ t, B.has t ∧ B.ad t = b

def valT (ad : Tree → Nat) : Tree → Value
  | .file d => fileV (ad (.file d))
  | .dir es => dirV (ad (.dir es))
def valsE (ad : Tree → Nat) (es : Ents) : List (Str × Value) := es.map fun e => (e.1, valT ad e.2)
abbrev ptrV (b : Nat) : Value := .pointer (some ⟨b, 0, none⟩)

structure BankAt (w : World) (B : Bank) : Prop where
  store : w.heap[B.sb]? = some (.cells #[.int .i64 B.room, .int .i64 B.made, .map (some B.rs), .map (some B.rd), .map (some B.rf), .map (some B.rr)] 87 (0, 0))
  snaps : ∃ es clock, w.heap[B.rs]? = some (.map es clock) ∧ Holds es (fun s : Nat × Ents => .int .i64 s.1) (fun s => ptrV (B.ad (.dir s.2))) B.ss
  dmap : ∃ es clock, w.heap[B.rd]? = some (.map es clock) ∧ Holds es (fun d => .agg (listCells (valsE B.ad d)).toArray) (fun d => ptrV (B.ad (.dir d))) B.ds
  fmap : ∃ es clock, w.heap[B.rf]? = some (.map es clock) ∧ Holds es (fun d => SV d) (fun d => ptrV (B.ad (.file d))) B.fs
  apart : B.rs ≠ B.rd ∧ B.rs ≠ B.rf ∧ B.rd ≠ B.rf
  files : ∀ d, d ∈ B.fs → FileAt w (B.ad (.file d)) (B.us (.file d)) d
  dirs : ∀ es, es ∈ B.ds → DirAt w (B.ad (.dir es)) (B.us (.dir es)) (valsE B.ad es)
  closed : ∀ es, es ∈ B.ds → ∀ e, e ∈ es → B.has e.2
  roots : ∀ s, s ∈ B.ss → s.2 ∈ B.ds
  ndD : B.ds.Nodup
  ndF : B.fs.Nodup
  ndS : (B.ss.map (·.1)).Nodup

theorem fileAt_inj {w : World} {b : Nat} {u u' : Int} {d d' : Str} (h : FileAt w b u d) (h' : FileAt w b u' d') : u = u' ∧ d = d' := by
  unfold FileAt at h h'; rw [h] at h'
  simpa using h'
theorem flatE_inj {vs vs' : List (Str × Value)} {r r' : List Value} (hl : vs.length = vs'.length) (h : flatE vs ++ r = flatE vs' ++ r') : vs = vs' := by
  induction vs generalizing vs' with
  | nil => cases vs' with
    | nil => rfl
    | cons => simp at hl
  | cons e vs ih => cases vs' with
    | nil => simp at hl
    | cons e' vs' =>
      simp only [flatE, List.flatMap_cons, List.cons_append, List.nil_append, List.cons.injEq] at h
      have := ih (by simpa using hl) h.2.2
      rw [this]
      congr 1
      have h1 : e.1 = e'.1 := by simpa using h.1
      exact Prod.ext h1 h.2.1
theorem listCells_inj {vs vs' : List (Str × Value)} (h : listCells vs = listCells vs') : vs = vs' := by
  rw [listCells_eq, listCells_eq] at h
  simp only [List.cons.injEq, Value.int.injEq, true_and] at h
  exact flatE_inj (by have := h.1; omega) h.2
theorem dirAt_inj {w : World} {b : Nat} {u u' : Int} {vs vs' : List (Str × Value)} (h : DirAt w b u vs) (h' : DirAt w b u' vs') : u = u' ∧ vs = vs' := by
  have h1 := h.2; rw [h'.2] at h1
  simp only [Option.some.injEq, Obj.cells.injEq, List.cons.injEq, and_true, Array.mk.injEq, Value.int.injEq, true_and] at h1
  exact ⟨h1.1.symm, (listCells_inj h1.2).symm⟩
theorem file_not_dir {w : World} {b : Nat} {u u' : Int} {d : Str} {vs : List (Str × Value)} (h : FileAt w b u d) (h' : DirAt w b u' vs) : False := by
  have h1 := h'.2; unfold FileAt at h; rw [h] at h1
  simp at h1

theorem valT_ad {ad : Tree → Nat} {t t' : Tree} (h : valT ad t = valT ad t') : ad t = ad t' := by
  cases t <;> cases t' <;> simp [valT] at h <;> exact h
theorem valsE_len (ad : Tree → Nat) (es : Ents) : (valsE ad es).length = es.length := by simp [valsE]

theorem valsE_inj {ad : Tree → Nat} {es es' : Ents} (hq : ∀ e ∈ es, ∀ e' ∈ es', valT ad e.2 = valT ad e'.2 → e.2 = e'.2) (h : valsE ad es = valsE ad es') : es = es' := by
  induction es generalizing es' with
  | nil => cases es' with
    | nil => rfl
    | cons => simp [valsE] at h
  | cons e es ih => cases es' with
    | nil => simp [valsE] at h
    | cons e' es' =>
      simp only [valsE, List.map_cons, List.cons.injEq, Prod.mk.injEq] at h
      have h1 := hq e (by simp) e' (by simp) h.1.2
      rw [ih (fun a ha b hb => hq a (by simp [ha]) b (by simp [hb])) h.2]
      congr 1
      exact Prod.ext h.1.1 h1

theorem size_child {es : Ents} {e : Str × Tree} (h : e ∈ es) : SizeOf.sizeOf e.2 < SizeOf.sizeOf (Tree.dir es) := by
  obtain ⟨k, hk, rfl⟩ := List.getElem_of_mem h
  exact size_ent hk

section
variable {w : World} {B : Bank}

theorem BankAt.inj (h : BankAt w B) (n : Nat) : ∀ t t', SizeOf.sizeOf t ≤ n → B.has t → B.has t' → B.ad t = B.ad t' → t = t' := by
  induction n with
  | zero => intro t t' hn; cases t <;> simp at hn <;> omega
  | succ n ih =>
    intro t t' hn h1 h2 he
    cases t with
    | file d => cases t' with
      | file d' => have a := h.files d h1; have b := h.files d' h2; rw [← he] at b; rw [(fileAt_inj a b).2]
      | dir es' => have a := h.files d h1; have b := h.dirs es' h2; rw [← he] at b; exact (file_not_dir a b).elim
    | dir es => cases t' with
      | file d' => have a := h.dirs es h1; have b := h.files d' h2; rw [← he] at b; exact (file_not_dir b a).elim
      | dir es' =>
        have a := h.dirs es h1; have b := h.dirs es' h2; rw [← he] at b
        have hv := (dirAt_inj a b).2
        rw [valsE_inj (fun e hm e' hm' hx => ih e.2 e'.2 (by have := size_child hm; omega) (h.closed es h1 e hm) (h.closed es' h2 e' hm') (valT_ad hx)) hv]
theorem BankAt.same (h : BankAt w B) {t t' : Tree} (h1 : B.has t) (h2 : B.has t') (he : B.ad t = B.ad t') : t = t' := h.inj _ t t' (Nat.le_refl _) h1 h2 he

theorem BankAt.node (h : BankAt w B) {t : Tree} (ht : B.has t) : NodeV w (valT B.ad t) := by
  cases t with
  | file d => exact .inr (.inl ⟨_, _, rfl, h.files d ht⟩)
  | dir es => exact .inr (.inr ⟨_, _, rfl, (h.dirs es ht).2⟩)
theorem BankAt.nodes (h : BankAt w B) {es : Ents} (hl : es.length ≤ 20) (hc : ∀ e ∈ es, B.has e.2) : Nodes w (valsE B.ad es) := by
  refine ⟨by rw [valsE_len]; exact hl, fun e he => ?_⟩
  simp only [valsE, List.mem_map] at he
  obtain ⟨x, hx, rfl⟩ := he
  exact h.node (hc x hx)
theorem BankAt.few (h : BankAt w B) {es : Ents} (he : es ∈ B.ds) : es.length ≤ 20 := by have := (h.dirs es he).1; rwa [valsE_len] at this
theorem BankAt.same_dir (h : BankAt w B) {es es' : Ents} (hc : ∀ e ∈ es, B.has e.2) (he' : es' ∈ B.ds) (hv : valsE B.ad es = valsE B.ad es') : es = es' :=
  valsE_inj (fun e hm e' hm' hx => h.same (hc e hm) (h.closed es' he' e' hm') (valT_ad hx)) hv

/-- Looking a directory up in the register. -/
theorem BankAt.find_dir (h : BankAt w B) {es : Ents} (hl : es.length ≤ 20) (hc : ∀ e ∈ es, B.has e.2) : ∃ m clock, w.heap[B.rd]? = some (.map m clock) ∧ Holds m (fun d => .agg (listCells (valsE B.ad d)).toArray) (fun d => ptrV (B.ad (.dir d))) B.ds ∧
    ∀ W : World, W.heap = w.heap → Finds W 147 (.agg (listCells (valsE B.ad es)).toArray) m (fun d => ptrV (B.ad (.dir d))) B.ds es := by
  obtain ⟨m, clock, hm, hh⟩ := h.dmap
  refine ⟨m, clock, hm, hh, fun W hW => ?_⟩
  have hN : ∀ vs, Nodes w vs → Nodes W vs := fun vs hv => ⟨hv.1, fun e he => by unfold NodeV; rw [hW]; exact hv.2 e he⟩
  exact finds_listing (g := valsE B.ad) hh (hN _ (h.nodes hl hc)) (fun x hx => hN _ (h.nodes (h.few hx) (h.closed x hx))) (fun x hx hv => h.same_dir hc hx hv)
theorem BankAt.find_file (h : BankAt w B) (d : Str) : ∃ m clock, w.heap[B.rf]? = some (.map m clock) ∧ Holds m (fun d => SV d) (fun d => ptrV (B.ad (.file d))) B.fs ∧
    ∀ W : World, Finds W 9 (SV d) m (fun d => ptrV (B.ad (.file d))) B.fs d := by
  obtain ⟨m, clock, hm, hh⟩ := h.fmap
  exact ⟨m, clock, hm, hh, fun W => finds_string hh⟩

/-- A value that stands for a tree, and is a kept one's, stands for that one. -/
theorem rep_kept {Q : Nat → Int → Prop} (h : BankAt w B) (n : Nat) : ∀ t' t, SizeOf.sizeOf t' ≤ n → B.has t' → RepT w Q (valT B.ad t') t → t = t' := by
  induction n with
  | zero => intro t' t hn; cases t' <;> simp at hn <;> omega
  | succ n ih =>
    intro t' t hn h1 hr
    cases t' with
    | file d =>
      have a := h.files d h1
      unfold valT at hr
      cases hr with
      | file hf _ => rw [(fileAt_inj hf a).2]
    | dir es =>
      have a := h.dirs es h1
      have hcl := h.closed es h1
      unfold valT at hr
      cases hr with
      | @dir _ _ vs es2 hd hq he =>
        have hv := (dirAt_inj hd a).2
        subst hv
        clear hd a hq
        congr 1
        have hsz : ∀ e ∈ es, SizeOf.sizeOf e.2 ≤ n := fun e hm => by have := size_child hm; omega
        clear hn h1
        induction es generalizing es2 with
        | nil => cases he; rfl
        | cons e es ih2 =>
          cases he with
          | @cons _ _ t2 _ es2 hr hs =>
            rw [ih2 (fun x hx => hcl x (by simp [hx])) hs (fun x hx => hsz x (by simp [hx]))]
            have := ih e.2 t2 (hsz e (by simp)) (hcl e (by simp)) hr
            rw [this]
end

end Go.Proofs.YtdcbgfhkfmohiaaGreatDoor
