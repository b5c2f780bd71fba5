/- Plain facts on texts (lists of bytes), as the walks spell them. Nothing of the program. -/
import Derived.WalkKit
import Derived.WalkSpells
import Derived.WalkLawsBesides
import Derived.Test.YtdcbgfhkfmohiaaGreatDoorProg
import Derived.Deep.QuietTactic
import Derived.BigQuiet
import Derived.WalkSmall
import Derived.Deep.RegionWith
import Derived.Deep.DeepCutAuto
import Derived.RegionTactic
import Derived.Maps.AppendAt
import Derived.Deep.RegionLaw
namespace Go.Proofs.YtdcbgfhkfmohiaaGreatDoor
open Go.RowKit

abbrev Str := List UInt8

theorem extract_list (l : List UInt8) (a b : Nat) : (ByteArray.mk l.toArray).extract a b = ByteArray.mk ((l.drop a).take (b - a)).toArray := by
  apply ByteArray.ext
  rw [ByteArray.data_extract]
  simp

theorem get_list (l : List UInt8) (k : Nat) (h : k < (ByteArray.mk l.toArray).size) : (ByteArray.mk l.toArray)[k] = l[k]'(by simpa [ByteArray.size] using h) := by
  simp [ByteArray.getElem_eq_getElem_data]

theorem ret_int {k : IntKind} {a b : Int} (h : a = b) : Ending.returned (.int k a) = .returned (.int k b) := by rw [h]
theorem ret_bool {a b : Bool} (h : a = b) : Ending.returned (.bool a) = .returned (.bool b) := by rw [h]
end Go.Proofs.YtdcbgfhkfmohiaaGreatDoor

/- A variable of the library's that a search reads. -/
namespace Go.Proofs.YtdcbgfhkfmohiaaGreatDoor
open Go.RowKit

/-- The library's variable of the greatest length that it searches for at once holds some number. -/
def MaxOk (w : World) : Prop := ∃ m, w.cell? ⟨0, 0, none⟩ = some (.int .i64 m)
theorem MaxOk.lt {w : World} (h : MaxOk w) : 0 < w.heap.size := by
  obtain ⟨m, h⟩ := h
  refine Classical.byContradiction fun hn => ?_
  have : w.heap[0]? = none := Array.getElem?_eq_none (by omega)
  simp [World.cell?, this] at h
theorem MaxOk.below {w w' : World} {B : Nat} (h : MaxOk w) (hb : Below B w w') (hB : 0 < B) : MaxOk w' := by
  obtain ⟨m, h⟩ := h
  exact ⟨m, (hb.cell (p := ⟨0, 0, none⟩) hB).trans h⟩
theorem MaxOk.later {w w' : World} (h : MaxOk w) (hb : Below w.heap.size w w') : MaxOk w' := h.below hb h.lt

end Go.Proofs.YtdcbgfhkfmohiaaGreatDoor

/- Contracts of the document's answer (package canopyref): names, pieces of texts. -/
namespace Go.Proofs.YtdcbgfhkfmohiaaGreatDoor
open Go.RowKit

def belowL (p d : Str) : Str := if d = [47] then p else if d.length + 1 < p.length ∧ p.take d.length = d ∧ p[d.length]? = some 47 then p.drop (d.length + 1) else []

theorem belowL_no1 {p d : Str} (hr : (d == [47]) = false) (h : (p.length : Int) ≤ d.length + 1) : belowL p d = [] := by
  simp at hr; unfold belowL; rw [if_neg hr, if_neg (by omega)]
theorem belowL_no2 {p d : Str} (hr : (d == [47]) = false) (h : ¬ p.take d.length = d) : belowL p d = [] := by
  simp at hr; unfold belowL; rw [if_neg hr, if_neg (fun x => h x.2.1)]
theorem byte_eq (b : UInt8) (n : Nat) (h : ((b.toNat : Int) == (n : Int)) = true) (hn : n < 256) : b = UInt8.ofNat n := by
  simp at h; apply UInt8.toNat_inj.1; simp; omega
theorem belowL_no3 {p d : Str} (hr : (d == [47]) = false) (hl : d.length < p.length) (h : (((p[d.length]'hl).toNat : Int) == 47) = false) : belowL p d = [] := by
  simp at hr; unfold belowL; rw [if_neg hr, if_neg]
  intro x; have := x.2.2; rw [List.getElem?_eq_getElem hl] at this; simp at this; rw [this] at h; simp at h
theorem belowL_yes {p d : Str} (hr : (d == [47]) = false) (h1 : (d.length : Int) + 1 < p.length) (h2 : p.take d.length = d) (hl : d.length < p.length) (h : (((p[d.length]'hl).toNat : Int) == 47) = true) : belowL p d = p.drop (d.length + 1) := by
  simp at hr; unfold belowL; rw [if_neg hr, if_pos]
  exact ⟨by omega, h2, by rw [List.getElem?_eq_getElem hl, byte_eq _ 47 h (by omega)]; rfl⟩

def okByte (wild : Bool) (c : UInt8) : Bool := decide (97 ≤ c.toNat ∧ c.toNat ≤ 122) || decide (48 ≤ c.toNat ∧ c.toNat ≤ 57) || decide (c.toNat = 46) || (wild && decide (c.toNat = 42 ∨ c.toNat = 63))
def isNameL (s : Str) (wild : Bool) : Bool := decide (1 ≤ s.length) && decide (s.length ≤ 8) && s.all (okByte wild)

theorem isNameL_bad {s : Str} {wild : Bool} {k : Nat} (hk : k < s.length) (h : okByte wild s[k] = false) : isNameL s wild = false := by
  unfold isNameL
  have : s.all (okByte wild) = false := by
    rw [List.all_eq_false]; exact ⟨s[k], List.getElem_mem hk, by simp [h]⟩
  simp [this]
theorem isNameL_good {s : Str} {wild : Bool} (h1 : ¬ (s.length : Int) < 1) (h8 : ¬ (8 : Int) < s.length) (h : ∀ j (hj : j < s.length), okByte wild s[j] = true) : isNameL s wild = true := by
  unfold isNameL
  have : s.all (okByte wild) = true := by
    rw [List.all_eq_true]; intro x hx; obtain ⟨j, hj, rfl⟩ := List.getElem_of_mem hx; exact h j hj
  simp [this]; omega
theorem all_step {s : Str} {f : UInt8 → Bool} {k : Nat} (hk : k < s.length) (hall : ∀ j (hj : j < s.length), j < k → f s[j] = true) (h : f s[k] = true) : ∀ j (hj : j < s.length), j < k + 1 → f s[j] = true := by
  intro j hj hjk
  by_cases e : j = k
  · subst e; exact h
  · exact hall j hj (by omega)

theorem isNameL_short {s : Str} {wild : Bool} (h : (s.length : Int) < 1) : isNameL s wild = false := by
  unfold isNameL; have : ¬ 1 ≤ s.length := by omega
  simp [this]
theorem isNameL_long {s : Str} {wild : Bool} (h : (8 : Int) < s.length) : isNameL s wild = false := by
  unfold isNameL; have : ¬ s.length ≤ 8 := by omega
  simp [this]

end Go.Proofs.YtdcbgfhkfmohiaaGreatDoor

/- Contracts of the document's answer (package canopyref): split. -/
namespace Go.Proofs.YtdcbgfhkfmohiaaGreatDoor
open Go.RowKit

abbrev SV (l : Str) : Value := .string ⟨l.toArray⟩

theorem Tryz.infoStr : (Tryz.prog.info? 9).map (fun i => (i.zero, i.size, i.bytes)) = some (some (.string ⟨#[]⟩), 1, 16) := by kernel_rfl

/-- Nothing but draws lies between. -/
structure Like (W w : World) : Prop where
  os : W.os = w.os
  tape : W.tape = w.tape
  output : W.output = w.output
  heap : W.heap = w.heap

theorem Like.ownsRow {W w : World} (h : Like W w) {base : Nat} {e : TypeId} {size : Nat} {v : Value} {n : Nat} {xs : List Value} (ho : w.ownsRow base e size v n xs) : W.ownsRow base e size v n xs := by
  unfold World.ownsRow; rw [h.heap]; exact ho
theorem Like.below {W w : World} (h : Like W w) (B : Nat) : Below B w W := ⟨h.os, h.tape, h.output, by rw [h.heap]; exact Nat.le_refl _, fun _ _ => by rw [h.heap]⟩

/-- One element (its cells: cs) appended to a list that the call itself made. -/
theorem wp_app {W wr : World} {ops : Array Oper} {rest : List Oper} {o : Oper} {a : Act} {Q : Exit → Act → World → Prop} (t e : TypeId) (z : Value) (size bytes : Nat)
    (hinf : (Tryz.prog.info? e).map (fun i => (i.zero, i.size, i.bytes)) = some (some z, size, bytes)) (ht : Tryz.prog.underlying t = some (.slice e)) (hzs : z.cells.size = size) (hsz : 0 < size)
    (hgd : o.guard = none) (s x : Operand) (ho : o.op = .call { callee := .builtin .append, args := #[s, x], argTypes := #[t, t] })
    {base : Nat} {v : Value} {n : Nat} {xs : List Value} (hown : wr.ownsRow base e size v n xs) (cs : List Value) (hcs : cs.length = size) (h1 : ∀ u ∈ cs, u.oneCell' = true)
    (hW : Like W (wr.alloc (.cells cs.toArray e)))
    (hs : a.eval s = v) (hx : a.eval x = .slice (some ⟨wr.heap.size, 0, none⟩) 1 1)
    (hm : n + 1 ≤ maxLen) (hby : (n + 1) * bytes ≤ 140737488355328) (hbase : base ≤ wr.heap.size)
    (h : ∀ v' w', w'.ownsRow base e size v' (n + 1) (xs ++ cs) → Below base wr w' → wpList Tryz.prog ops Q rest (a.put o.dst v') w') : wpList Tryz.prog ops Q (o :: rest) a W := by
  obtain ⟨i0, hi, hz0, hz1, hz2⟩ := info_parts hinf
  have hz : (wr.alloc (.cells cs.toArray e)).heap.size = wr.heap.size + 1 := by simp
  refine wpList_append_own _ hgd s x t ho base e i0 z size bytes ht hi hz0 hz1 hz2 hzs hsz v n xs hs (hW.ownsRow (hown.alloc _)) ⟨wr.heap.size, 0, none⟩ 1 1 cs hx (by omega) ?_ h1 hm hby (by rw [hW.heap, hz]; omega) ?_
  · intro j u hj
    have hjl : j < cs.length := (List.getElem?_eq_some_iff.1 hj).1
    have ha : (Addr.mk wr.heap.size 0 none).add j = ⟨wr.heap.size, j, none⟩ := by simp only [Addr.add]; split <;> simp_all
    rw [ha]; simp only [World.cell?, hW.heap, heap_alloc_new]; simpa using hj
  · intro v' w' h1 h2 _
    refine h v' w' h1 ((((Below.refl _ _).alloc hbase _).trans (hW.below _)).grown h2 (by rw [hW.heap, hz]; omega) ?_)
    intro k hk
    exact (hown.lt k hk).1

/-- A text appended to a list of texts that the call itself made. -/
theorem wp_app_str {W wr : World} {ops : Array Oper} {rest : List Oper} {o : Oper} {a : Act} {Q : Exit → Act → World → Prop} (hgd : o.guard = none) (s x : Operand)
    (ho : o.op = .call { callee := .builtin .append, args := #[s, x], argTypes := #[48, 48] })
    {base : Nat} {v : Value} {n : Nat} {xs : List Str} (hown : wr.ownsRow base 9 1 v n (xs.map SV)) (t : Str) (hW : Like W (wr.alloc (.cells #[SV t] 9)))
    (hs : a.eval s = v) (hx : a.eval x = .slice (some ⟨wr.heap.size, 0, none⟩) 1 1)
    (hb : n ≤ 10000) (hbase : base ≤ wr.heap.size)
    (h : ∀ v' w', w'.ownsRow base 9 1 v' (n + 1) ((xs ++ [t]).map SV) → Below base wr w' → wpList Tryz.prog ops Q rest (a.put o.dst v') w') : wpList Tryz.prog ops Q (o :: rest) a W := by
  refine wp_app 48 9 (.string ⟨#[]⟩) 1 16 Tryz.infoStr Tryz.underlying48 rfl (by decide) hgd s x ho hown [SV t] rfl ?_ hW hs hx (by unfold maxLen; omega) (by omega) hbase ?_
  · intro u hu; simp at hu; subst hu; rfl
  · intro v' w' h1 h2
    exact h v' w' (by simpa using h1) h2

def splitL (c : UInt8) : Str → List Str
  | [] => [[]]
  | b :: t => if b = c then [] :: splitL c t else match splitL c t with
    | h :: r => (b :: h) :: r
    | [] => [[b]]

theorem splitL_ne (c : UInt8) (s : Str) : splitL c s ≠ [] := by
  induction s with
  | nil => simp [splitL]
  | cons b t ih =>
    unfold splitL; split
    · simp
    · split <;> simp

theorem splitL_none {c : UInt8} {p : Str} (h : ∀ b ∈ p, b ≠ c) : splitL c p = [p] := by
  induction p with
  | nil => rfl
  | cons b t ih =>
    have h1 : b ≠ c := h b (by simp)
    rw [splitL, if_neg h1, ih (fun x hx => h x (by simp [hx]))]

theorem splitL_at {c : UInt8} {p t : Str} (h : ∀ b ∈ p, b ≠ c) : splitL c (p ++ c :: t) = p :: splitL c t := by
  induction p with
  | nil => simp [splitL]
  | cons b q ih =>
    have h1 : b ≠ c := h b (by simp)
    rw [List.cons_append, splitL, if_neg h1, ih (fun x hx => h x (by simp [hx]))]

theorem splitL_len (c : UInt8) (s : Str) : (splitL c s).length ≤ s.length + 1 := by
  induction s with
  | nil => simp [splitL]
  | cons b t ih =>
    unfold splitL; split
    · simp; exact ih
    · have := splitL_ne c t
      split <;> simp_all <;> omega

/-- After the bytes up to k: the pieces that are done, and where the next begins. -/
structure SplitAt (c : UInt8) (s : Str) (k f : Nat) (xs : List Str) : Prop where
  fk : f ≤ k
  ks : k ≤ s.length
  len : xs.length ≤ k
  all : xs ++ splitL c (s.drop f) = splitL c s
  free : ∀ b ∈ (s.drop f).take (k - f), b ≠ c

theorem SplitAt.start (c : UInt8) (s : Str) : SplitAt c s 0 0 [] := ⟨by omega, by omega, by simp, by simp, by simp⟩

theorem drop_split {s : Str} {f k : Nat} (hf : f ≤ k) (hk : k < s.length) : s.drop f = (s.drop f).take (k - f) ++ s[k] :: s.drop (k + 1) := by
  conv => lhs; rw [← List.take_append_drop (k - f) (s.drop f)]
  rw [List.drop_drop, show f + (k - f) = k from by omega, List.drop_eq_getElem_cons hk]

theorem SplitAt.hit {c : UInt8} {s : Str} {k f : Nat} {xs : List Str} (h : SplitAt c s k f xs) (hk : k < s.length) (hc : s[k] = c) : SplitAt c s (k + 1) (k + 1) (xs ++ [(s.drop f).take (k - f)]) := by
  refine ⟨by omega, by omega, by have := h.len; simp; omega, ?_, by simp⟩
  rw [List.append_assoc, List.singleton_append, ← h.all]
  conv => rhs; rw [drop_split h.fk hk, hc, splitL_at h.free]

theorem SplitAt.miss {c : UInt8} {s : Str} {k f : Nat} {xs : List Str} (h : SplitAt c s k f xs) (hk : k < s.length) (hc : s[k] ≠ c) : SplitAt c s (k + 1) f xs := by
  have hf := h.fk
  refine ⟨by omega, by omega, by have := h.len; omega, h.all, ?_⟩
  intro b hb
  rw [show k + 1 - f = (k - f) + 1 from by omega, List.take_add_one, List.mem_append] at hb
  rcases hb with hb | hb
  · exact h.free b hb
  · rw [List.getElem?_drop, show f + (k - f) = k from by omega, List.getElem?_eq_getElem hk] at hb
    simp at hb; rw [hb]; exact hc

theorem SplitAt.done {c : UInt8} {s : Str} {f : Nat} {xs : List Str} (h : SplitAt c s s.length f xs) : xs ++ [(s.drop f).take (s.length - f)] = splitL c s := by
  have h1 := h.free
  have e : (s.drop f).take (s.length - f) = s.drop f := List.take_of_length_le (by simp)
  rw [e] at h1 ⊢
  rw [← splitL_none h1, h.all]

set_option maxHeartbeats 1000000 in
set_option maxRecDepth 20000 in
theorem split_any (s : Str) (c : UInt8) (w : World) (hs : s.length ≤ 5000) :
    Calls Tryz.prog 134 #[SV s, .int .u8 c.toNat] w fun e w' => ∃ v, e = .returned v ∧ w'.ownsRow w.heap.size 9 1 v (splitL c s).length ((splitL c s).map SV) ∧ Below w.heap.size w w' := by
  have hX := extract_list
  have hG := get_list
  go_enter Tryz.func134, Tryz.ntmps134
  go_wp2
  go_loopw [5, 6, 7] (fun v f i wr => ∃ (k fn : Nat) (xs : List Str), i = .int .i64 k ∧ f = .int .i64 fn ∧ wr.ownsRow w.heap.size 9 1 v xs.length (xs.map SV) ∧ Below w.heap.size w wr ∧ ((k ≤ s.length ∧ SplitAt c s k fn xs) ∨ (k = s.length + 1 ∧ xs = splitL c s)))
    (fun _ _ i _ => s.length + 1 - (intOf i).toNat)
  case atStart => exact ⟨0, 0, [], rfl, rfl, World.ownsRow_nil _ _ _ _, Below.refl _ _, .inl ⟨Nat.zero_le _, SplitAt.start c s⟩⟩
  case round =>
    obtain ⟨k, fn, xs, rfl, rfl, hown, hbel, hst⟩ := hrel
    rcases hst with ⟨hk, hst⟩ | ⟨rfl, rfl⟩
    · have hfk := hst.fk
      have hlen := hst.len
      by_cases hlt : k < s.length
      · cases hc : (((s[k]).toNat : Int) == (c.toNat : Int))
        · have hne : s[k] ≠ c := fun e => by rw [e] at hc; simp at hc
          have R := hst.miss hlt hne
          clear hst hne
          go_wp2
          go_roundw
          case rel => exact ⟨k + 1, fn, xs, by go_num, rfl, hown, hbel, .inl ⟨by omega, R⟩⟩
          case measure => simp [intOf]; omega
        · have he : s[k] = c := by simp at hc; exact UInt8.toNat_inj.1 (by omega)
          have R := hst.hit hlt he
          have hz := hbel.size
          clear hst he
          go_wp2_with (at_builtin; go_loud (refine wp_app_str rfl (.tmp 25) (.tmp 30) rfl hown ((s.drop fn).take (k - fn)) ⟨rfl, rfl, rfl, rfl⟩ rfl rfl (by omega) hz ?_))
          intro v' w' hown' hb'
          go_wp2
          go_roundw
          case rel => exact ⟨k + 1, k + 1, _, by go_num, by go_num, by simpa using hown', hbel.trans hb', .inl ⟨by omega, R⟩⟩
          case measure => simp [intOf]; omega
      · have hkn : k = s.length := by omega
        subst hkn
        have R : Hid _ := hst.done
        have hz := hbel.size
        clear hst hlt hk
        go_wp2_with (at_builtin; go_loud (refine wp_app_str rfl (.tmp 25) (.tmp 30) rfl hown ((s.drop fn).take (s.length - fn)) ⟨rfl, rfl, rfl, rfl⟩ rfl rfl (by omega) hz ?_))
        intro v' w' hown' hb'
        go_wp2
        go_roundw
        case rel => exact ⟨s.length + 1, s.length + 1, _, by go_num, by go_num, by simpa using hown', hbel.trans hb', .inr ⟨rfl, R.out⟩⟩
        case measure => simp [intOf]
    · go_wp2
      go_ret
      exact ⟨_, rfl, hown, hbel⟩

end Go.Proofs.YtdcbgfhkfmohiaaGreatDoor

/- Contracts of the document's answer (package canopyref): lists of files, read alone. -/
namespace Go.Proofs.YtdcbgfhkfmohiaaGreatDoor
open Go.RowKit

/-- A file: its path, its data. -/
abbrev Fl := Str × Str
def flat (l : List Fl) : List Value := l.flatMap fun f => [SV f.1, SV f.2]

/-- The slice v reads as the files l. -/
def FilesAt (w : World) (v : Value) (l : List Fl) : Prop := w.ownsRow 0 236 2 v l.length (flat l)

/-- Lists as the statements' stores hold them: no bound of theirs is greater. -/
def Small (l : List Fl) : Prop := l.length ≤ 1000 ∧ ∀ f ∈ l, f.1.length ≤ 1000 ∧ f.2.length ≤ 1000

def getL (l : List Fl) (p : Str) : Option Nat := l.findIdx? (fun f => f.1 == p)
def getI (l : List Fl) (p : Str) : Int := match getL l p with
  | some k => (k : Int)
  | none => -1

theorem getI_miss {l : List Fl} {p : Str} (hall : ∀ j (hj : j < l.length), (l[j].1 == p) = false) : getI l p = -1 := by
  have : getL l p = none := by
    unfold getL; rw [List.findIdx?_eq_none_iff]
    intro x hx; obtain ⟨j, hj, rfl⟩ := List.getElem_of_mem hx; exact hall j hj
  simp [getI, this]
theorem below_step {l : List Fl} {q : Fl → Bool} {b : Bool} {k : Nat} (hk : k < l.length) (hall : ∀ j (hj : j < l.length), j < k → q l[j] = b) (h : q l[k] = b) : ∀ j (hj : j < l.length), j < k + 1 → q l[j] = b := by
  intro j hj hjk
  by_cases e : j = k
  · subst e; exact h
  · exact hall j hj (by omega)

theorem flat_get (l : List Fl) (k : Nat) (h : k < l.length) : (flat l)[2 * k]? = some (SV l[k].1) ∧ (flat l)[2 * k + 1]? = some (SV l[k].2) := by
  induction l generalizing k with
  | nil => simp at h
  | cons f t ih =>
    cases k with
    | zero => simp [flat]
    | succ k =>
      have := ih k (by simpa using h)
      simp only [flat, List.flatMap_cons, List.getElem_cons_succ] at *
      rw [show 2 * (k + 1) = 2 * k + 2 from by omega, show 2 * k + 2 + 1 = (2 * k + 1) + 2 from by omega]
      simpa using this

theorem row_cells {w : World} {base : Nat} {e : TypeId} {size n : Nat} {v : Value} {xs : List Value} (h : w.ownsRow base e size v n xs) :
    (v = .slice none 0 0 ∧ n = 0) ∨ ∃ g cap, v = .slice (some ⟨g, 0, none⟩) n cap ∧ g < w.heap.size ∧ base ≤ g ∧ n ≤ cap ∧ cap ≤ maxLen ∧ ∀ k u, xs[k]? = some u → w.cell? ⟨g, k, none⟩ = some u := by
  obtain ⟨hl, h⟩ := h
  rcases h with h | ⟨g, cap, cur, rfl, hb, hg, hn, hm, hs, ht⟩
  · exact .inl h
  · refine .inr ⟨g, cap, rfl, (Array.getElem?_eq_some_iff.1 hg).1, hb, hn, hm, ?_⟩
    intro k u hk
    simp only [World.cell?, hg]
    rw [← ht, List.getElem?_take] at hk
    split at hk
    · simpa using hk
    · simp at hk

theorem strs_cells {w : World} {base : Nat} {v : Value} {n : Nat} {xs : List Str} (h : w.ownsRow base 9 1 v n (xs.map SV)) :
    (v = .slice none 0 0 ∧ n = 0 ∧ xs = []) ∨ ∃ g cap, v = .slice (some ⟨g, 0, none⟩) n cap ∧ n = xs.length ∧ g < w.heap.size ∧ base ≤ g ∧ n ≤ cap ∧ cap ≤ maxLen ∧ (∀ k (h : k < xs.length), w.cell? ⟨g, k, none⟩ = some (SV xs[k])) := by
  have hl : n = xs.length := by have := h.1; simp at this; omega
  rcases row_cells h with ⟨h1, h2⟩ | ⟨g, cap, h1, h2, h2', h3, h4, h5⟩
  · exact .inl ⟨h1, h2, List.eq_nil_of_length_eq_zero (by omega)⟩
  · refine .inr ⟨g, cap, h1, hl, h2, h2', h3, h4, fun k hk => h5 _ _ ?_⟩
    simp [hk]

def crossedL (l : List Fl) (p : Str) : Bool := l.any fun f => !(belowL p f.1).isEmpty

end Go.Proofs.YtdcbgfhkfmohiaaGreatDoor

/- Contracts of the document's answer (package canopyref): lists of files that are made: in, without; isDir, IsPath. -/
namespace Go.Proofs.YtdcbgfhkfmohiaaGreatDoor
open Go.RowKit

def inL (l : List Fl) (dir : Str) : List Fl := l.flatMap fun f => if (belowL f.1 dir).isEmpty then [] else [(belowL f.1 dir, f.2)]

def withoutL (l : List Fl) (p : Str) : List Fl := l.flatMap fun f => if (f.1 == p) || !(belowL f.1 p).isEmpty then [] else [(f.1, f.2)]

def isDirL (l : List Fl) (p : Str) : Bool := (p == [47]) || !(inL l p).isEmpty

theorem row_form {w : World} {base : Nat} {e : TypeId} {size n : Nat} {v : Value} {xs : List Value} (h : w.ownsRow base e size v n xs) : ∃ ao cap, v = .slice ao n cap := by
  rcases h.2 with ⟨rfl, rfl⟩ | ⟨g, cap, cur, rfl, _⟩
  · exact ⟨_, _, rfl⟩
  · exact ⟨_, _, rfl⟩

def isPathL (s : Str) : Bool := decide (s.length ≤ 100) && (splitL 47 s).all (fun x => isNameL x false) && decide ((splitL 47 s).length ≤ 5)

theorem isPathL_bad {s : Str} {k : Nat} (hk : k < (splitL 47 s).length) (h : isNameL (splitL 47 s)[k] false = false) : isPathL s = false := by
  unfold isPathL
  have : (splitL 47 s).all (fun x => isNameL x false) = false := by
    rw [List.all_eq_false]; exact ⟨_, List.getElem_mem hk, by simp [h]⟩
  simp [this]
theorem splitL_piece (c : UInt8) (s : Str) : ∀ x ∈ splitL c s, x.length ≤ s.length := by
  induction s with
  | nil => simp [splitL]
  | cons b t ih =>
    unfold splitL; split
    · intro x hx; simp at hx; rcases hx with rfl | hx
      · simp
      · have := ih x hx; simp; omega
    · split
      · rename_i h r he
        intro x hx; simp at hx; rcases hx with rfl | hx
        · have := ih h (by rw [he]; simp); simp; omega
        · have := ih x (by rw [he]; simp [hx]); simp; omega
      · simp

end Go.Proofs.YtdcbgfhkfmohiaaGreatDoor

/- Contracts of the document's answer (package canopyref): Less, put. -/
namespace Go.Proofs.YtdcbgfhkfmohiaaGreatDoor
open Go.RowKit

def lessS : List Str → List Str → Bool
  | [], [] => false
  | [], _ :: _ => true
  | _ :: _, [] => false
  | x :: xs, y :: ys => if x = y then lessS xs ys else Op.bytesLess x y
def lessL (a b : Str) : Bool := lessS (splitL 47 a) (splitL 47 b)

/-- Up to k the two lists are one. -/
def SameTo (x y : List Str) (k : Nat) : Prop := k ≤ x.length ∧ k ≤ y.length ∧ lessS x y = lessS (x.drop k) (y.drop k)
theorem SameTo.zero (x y : List Str) : SameTo x y 0 := ⟨Nat.zero_le _, Nat.zero_le _, rfl⟩
theorem SameTo.step {x y : List Str} {k : Nat} (h : SameTo x y k) (hx : k < x.length) (hy : k < y.length) (he : x[k] = y[k]) : SameTo x y (k + 1) := by
  refine ⟨hx, hy, ?_⟩
  rw [h.2.2, List.drop_eq_getElem_cons hx, List.drop_eq_getElem_cons hy, lessS, if_pos he]
theorem SameTo.ends {x y : List Str} {k : Nat} (h : SameTo x y k) (he : ¬ (k < x.length ∧ k < y.length)) : lessS x y = decide (x.length < y.length) := by
  have h1 := h.1
  have h2 := h.2.1
  rw [h.2.2]
  by_cases hx : k < x.length
  · have hy : y.drop k = [] := List.drop_eq_nil_iff.2 (by omega)
    rw [hy, List.drop_eq_getElem_cons hx, lessS]; simp; omega
  · have hx' : x.drop k = [] := List.drop_eq_nil_iff.2 (by omega)
    by_cases hy : k < y.length
    · rw [hx', List.drop_eq_getElem_cons hy, lessS]; simp; omega
    · have hy' : y.drop k = [] := List.drop_eq_nil_iff.2 (by omega)
      rw [hx', hy', lessS]; simp; omega

end Go.Proofs.YtdcbgfhkfmohiaaGreatDoor

/- Contracts of the document's answer (package canopyref): put. -/
namespace Go.Proofs.YtdcbgfhkfmohiaaGreatDoor
open Go.RowKit

def putStep (f : Fl) (st : List Fl × Bool) (g : Fl) : List Fl × Bool :=
  ((if !st.2 && (lessL f.1 g.1 || f.1 == g.1) then st.1 ++ [f] else st.1) ++ (if g.1 == f.1 then [] else [g]), st.2 || (lessL f.1 g.1 || f.1 == g.1))
def putL (l : List Fl) (f : Fl) : List Fl := let st := l.foldl (putStep f) ([], false); if st.2 then st.1 else st.1 ++ [f]

def putTo (l : List Fl) (f : Fl) (k : Nat) : List Fl × Bool := (l.take k).foldl (putStep f) ([], false)
theorem putTo_zero (l : List Fl) (f : Fl) : putTo l f 0 = ([], false) := rfl
theorem putTo_succ {l : List Fl} {f : Fl} {k : Nat} (hk : k < l.length) : putTo l f (k + 1) = putStep f (putTo l f k) l[k] := by
  unfold putTo; rw [List.take_succ_eq_append_getElem hk, List.foldl_append]; rfl
theorem putTo_all {l : List Fl} {f : Fl} {k : Nat} (hk : l.length ≤ k) : putL l f = if (putTo l f k).2 then (putTo l f k).1 else (putTo l f k).1 ++ [f] := by
  unfold putTo putL; rw [List.take_of_length_le hk]
theorem ownsRow_below {B : Nat} {base : Nat} {e : TypeId} {size : Nat} {v : Value} {n : Nat} {xs : List Value} {w w' : World} (h : w.ownsRow base e size v n xs) (hb : Below B w w') (hB : w.heap.size ≤ B) : w'.ownsRow base e size v n xs := by
  refine ⟨h.1, ?_⟩
  rcases h.2 with h | ⟨g, cap, cur, h1, h2, h3, h4⟩
  · exact .inl h
  · have hlt := (Array.getElem?_eq_some_iff.1 h3).1
    exact .inr ⟨g, cap, cur, h1, h2, (hb.block g (by omega)).trans h3, h4⟩

/-- What a round of put reads: the file that is put (its box: block b), and the k-th of the list (block g). -/
structure PEnv (w0 : World) (b g : Nat) (f : Fl) (k : Nat) (x : Fl) (wr : World) : Prop where
  c0 : wr.cell? ⟨b, 0, none⟩ = some (SV f.1)
  c1 : wr.cell? ⟨b, 1, none⟩ = some (SV f.2)
  p : wr.cell? ⟨g, k * 2, none⟩ = some (SV x.1)
  d : wr.cell? ⟨g, k * 2 + 1, none⟩ = some (SV x.2)
  bel : Below (b + 1) w0 wr
  size : b + 1 ≤ wr.heap.size
  hg : g < b

theorem PEnv.step {w0 : World} {b g : Nat} {f : Fl} {k : Nat} {x : Fl} {wr w' : World} (h : PEnv w0 b g f k x wr) (hb : Below (b + 1) wr w') : PEnv w0 b g f k x w' := by
  have hg := h.hg
  exact ⟨(hb.cell (by simp)).trans h.c0, (hb.cell (by simp)).trans h.c1, (hb.cell (by simp; omega)).trans h.p, (hb.cell (by simp; omega)).trans h.d, h.bel.trans hb, Nat.le_trans h.size hb.size, hg⟩

theorem ownsRow_le {w : World} {base base' : Nat} {e : TypeId} {size : Nat} {v : Value} {n : Nat} {xs : List Value} (h : w.ownsRow base e size v n xs) (hb : base' ≤ base) : w.ownsRow base' e size v n xs := by
  refine ⟨h.1, ?_⟩
  rcases h.2 with h | ⟨g, cap, cur, h1, h2, h3⟩
  · exact .inl h
  · exact .inr ⟨g, cap, cur, h1, by omega, h3⟩

end Go.Proofs.YtdcbgfhkfmohiaaGreatDoor

/- Contracts of the document's answer (package canopyref): add, spell. -/
namespace Go.Proofs.YtdcbgfhkfmohiaaGreatDoor
open Go.RowKit

def addL (set : List Str) (s : Str) : List Str := if s ∈ set then set else set ++ [s]

theorem str_step {l : List Str} {q : Str → Bool} {b : Bool} {k : Nat} (hk : k < l.length) (hall : ∀ j (hj : j < l.length), j < k → q l[j] = b) (h : q l[k] = b) : ∀ j (hj : j < l.length), j < k + 1 → q l[j] = b := by
  intro j hj hjk
  by_cases e : j = k
  · subst e; exact h
  · exact hall j hj (by omega)

/-- The slice lies where it lay, or in memory that was not there. -/
def Moved (w : World) (v v' : Value) : Prop := ∀ k, v'.ownBlock = some k → v.ownBlock = some k ∨ w.heap.size ≤ k
theorem Moved.refl (w : World) (v : Value) : Moved w v v := fun _ h => .inl h

/-- One element (its cells: cs) appended to a list that the call itself made: nothing else is written. -/
theorem wp_app_at {W wr : World} {ops : Array Oper} {rest : List Oper} {o : Oper} {a : Act} {Q : Exit → Act → World → Prop} (t e : TypeId) (z : Value) (size bytes : Nat)
    (hinf : (Tryz.prog.info? e).map (fun i => (i.zero, i.size, i.bytes)) = some (some z, size, bytes)) (ht : Tryz.prog.underlying t = some (.slice e)) (hzs : z.cells.size = size) (hsz : 0 < size)
    (hgd : o.guard = none) (s x : Operand) (ho : o.op = .call { callee := .builtin .append, args := #[s, x], argTypes := #[t, t] })
    {base : Nat} {v : Value} {n : Nat} {xs : List Value} (hown : wr.ownsRow base e size v n xs) (cs : List Value) (hcs : cs.length = size) (h1 : ∀ u ∈ cs, u.oneCell' = true)
    (hW : Like W (wr.alloc (.cells cs.toArray e)))
    (hs : a.eval s = v) (hx : a.eval x = .slice (some ⟨wr.heap.size, 0, none⟩) 1 1)
    (hm : n + 1 ≤ maxLen) (hby : (n + 1) * bytes ≤ 140737488355328) (hbase : base ≤ wr.heap.size)
    (h : ∀ v' w', w'.ownsRow base e size v' (n + 1) (xs ++ cs) → wr.grownBy w' v.ownBlock → Moved wr v v' → wpList Tryz.prog ops Q rest (a.put o.dst v') w') : wpList Tryz.prog ops Q (o :: rest) a W := by
  obtain ⟨i0, hi, hz0, hz1, hz2⟩ := info_parts hinf
  have hz : (wr.alloc (.cells cs.toArray e)).heap.size = wr.heap.size + 1 := by simp
  refine wpList_append_own_at _ hgd s x t ho base e i0 z size bytes ht hi hz0 hz1 hz2 hzs hsz v n xs hs (hW.ownsRow (hown.alloc _)) ⟨wr.heap.size, 0, none⟩ 1 1 cs hx (by omega) ?_ h1 hm hby (by rw [hW.heap, hz]; omega) ?_
  · intro j u hj
    have hjl : j < cs.length := (List.getElem?_eq_some_iff.1 hj).1
    have ha : (Addr.mk wr.heap.size 0 none).add j = ⟨wr.heap.size, j, none⟩ := by simp only [Addr.add]; split <;> simp_all
    rw [ha]; simp only [World.cell?, hW.heap, heap_alloc_new]; simpa using hj
  · intro v' w' h1 h2 _ h4
    refine h v' w' h1 ⟨h2.os.trans hW.os, h2.tape.trans hW.tape, h2.output.trans hW.output, ?_, ?_⟩ ?_
    · have := h2.size; rw [hW.heap, hz] at this; omega
    · intro k hk hne
      rw [h2.block k (by rw [hW.heap, hz]; omega) hne, hW.heap]
      exact Below.heap_alloc wr _ k hk
    · intro k hk
      rcases h4 with h4 | h4
      · exact .inl (h4.symm.trans hk)
      · right; rw [h4, hW.heap, hz] at hk; simp at hk; omega

def spellF (f : Fl) : Str := f.1 ++ 61 :: (48 + UInt8.ofNat (f.2.length / 10)) :: (48 + UInt8.ofNat (f.2.length % 10)) :: (f.2 ++ [10])
def spellL (l : List Fl) : Str := l.flatMap spellF

theorem app_list (x y : List UInt8) : (ByteArray.mk x.toArray) ++ (ByteArray.mk y.toArray) = ByteArray.mk (x ++ y).toArray := ByteArray.mk_append_mk ..

end Go.Proofs.YtdcbgfhkfmohiaaGreatDoor

/- Contracts of the document's answer (package canopyref): Cells. -/
namespace Go.Proofs.YtdcbgfhkfmohiaaGreatDoor
open Go.RowKit

def dirStep (l : List Fl) (p : Str) (t : List Str) (n : Nat) : List Str := if p[n]? = some 47 then addL t (spellL (inL l (p.take n))) else t
def fileStep (l : List Fl) (st : List Str × List Str) (f : Fl) : List Str × List Str := ((List.range f.1.length).foldl (dirStep l f.1) st.1, addL st.2 f.2)
def snapStep (st : List Str × List Str) (l : List Fl) : List Str × List Str := l.foldl (fileStep l) (addL st.1 (spellL l), st.2)
def cellsSt (all : List (List Fl)) : List Str × List Str := all.foldl snapStep ([], [])
def cellsL (all : List (List Fl)) : Nat := (cellsSt all).1.length + (cellsSt all).2.length

/-- The slice v reads as these lists of files. -/
def ListsAt (w : World) (v : Value) (all : List (List Fl)) : Prop := ∃ vs : List Value, w.ownsRow 0 194 1 v all.length vs ∧ ∀ (k : Nat) (u : Value) (l : List Fl), vs[k]? = some u → all[k]? = some l → FilesAt w u l

/-- Two rows of the call's own, and nothing old turned. -/
structure Two (w : World) (vt vd : Value) (st : List Str × List Str) (wr : World) : Prop where
  t : wr.ownsRow w.heap.size 9 1 vt st.1.length (st.1.map SV)
  d : wr.ownsRow w.heap.size 9 1 vd st.2.length (st.2.map SV)
  apart : vt.ownBlock = none ∨ vt.ownBlock ≠ vd.ownBlock
  bel : Below w.heap.size w wr

theorem Two.size {w : World} {vt vd : Value} {st : List Str × List Str} {wr : World} (h : Two w vt vd st wr) : w.heap.size ≤ wr.heap.size := h.bel.size

theorem Two.later {w : World} {vt vd : Value} {st : List Str × List Str} {wr w' : World} (h : Two w vt vd st wr) (hb : Below wr.heap.size wr w') : Two w vt vd st w' :=
  ⟨ownsRow_below h.t hb (Nat.le_refl _), ownsRow_below h.d hb (Nat.le_refl _), h.apart, h.bel.trans (hb.mono h.bel.size)⟩

theorem Two.left {w : World} {vt vd : Value} {st : List Str × List Str} {wr w' : World} {v' : Value} {s : Str} (h : Two w vt vd st wr)
    (h1 : w'.ownsRow w.heap.size 9 1 v' (addL st.1 s).length ((addL st.1 s).map SV)) (h2 : wr.grownBy w' vt.ownBlock) (h3 : Moved wr vt v') : Two w v' vd (addL st.1 s, st.2) w' := by
  refine ⟨h1, h.d.kept h2 ?_, ?_, h.bel.grown h2 h.size fun k hk => (h.t.lt k hk).1⟩
  · rcases h.apart with ha | ha
    · rw [ha]; cases hv : vd.ownBlock
      · exact .inl rfl
      · exact .inr (by simp)
    · exact .inr (Ne.symm ha)
  · cases hv : v'.ownBlock with
    | none => exact .inl rfl
    | some k =>
      right; intro e
      rcases h3 k hv with h4 | h4
      · rcases h.apart with ha | ha
        · rw [ha] at h4; simp at h4
        · exact ha (h4.trans e)
      · have := (h.d.lt k e.symm).2; omega

theorem Two.right {w : World} {vt vd : Value} {st : List Str × List Str} {wr w' : World} {v' : Value} {s : Str} (h : Two w vt vd st wr)
    (h1 : w'.ownsRow w.heap.size 9 1 v' (addL st.2 s).length ((addL st.2 s).map SV)) (h2 : wr.grownBy w' vd.ownBlock) (h3 : Moved wr vd v') : Two w vt v' (st.1, addL st.2 s) w' := by
  refine ⟨h.t.kept h2 h.apart, h1, ?_, h.bel.grown h2 h.size fun k hk => (h.d.lt k hk).1⟩
  cases hv : vt.ownBlock with
  | none => exact .inl rfl
  | some k =>
    right; intro e
    rcases h3 k e.symm with h4 | h4
    · rcases h.apart with ha | ha
      · rw [ha] at hv; simp at hv
      · exact ha (hv.trans h4.symm)
    · have := (h.t.lt k hv).2; omega

def Tiny (l : List Fl) : Prop := l.length ≤ 20 ∧ ∀ f ∈ l, f.1.length ≤ 100 ∧ f.2.length ≤ 30
theorem Tiny.small {l : List Fl} (h : Tiny l) : Small l := ⟨by have := h.1; omega, fun f hf => by have := h.2 f hf; omega⟩

theorem files_below {w w' : World} {B : Nat} {v : Value} {l : List Fl} (h : FilesAt w v l) (hb : Below B w w') (hB : w.heap.size ≤ B) : FilesAt w' v l := ownsRow_below h hb hB

/-- What a reading of files wants of a later world: its block is as it was. -/
theorem files_kept {w w' : World} {v : Value} {l : List Fl} (h : FilesAt w v l) (hb : ∀ k, v.ownBlock = some k → w'.heap[k]? = w.heap[k]?) : FilesAt w' v l := by
  refine ⟨h.1, ?_⟩
  rcases h.2 with h | ⟨g, cap, cur, rfl, h2, h3, h4⟩
  · exact .inl h
  · exact .inr ⟨g, cap, cur, rfl, h2, (hb g rfl).trans h3, h4⟩

theorem belowL_len (p d : Str) : (belowL p d).length ≤ p.length := by
  unfold belowL; split
  · omega
  · split <;> simp <;> omega
theorem range_succ {l : List Fl} {p : Str} {t : List Str} (n : Nat) : (List.range (n + 1)).foldl (dirStep l p) t = dirStep l p ((List.range n).foldl (dirStep l p) t) n := by
  rw [List.range_succ, List.foldl_append]; rfl

end Go.Proofs.YtdcbgfhkfmohiaaGreatDoor

/- Contracts of the document's answer (package canopyref): its store: New, find, Cells. -/
namespace Go.Proofs.YtdcbgfhkfmohiaaGreatDoor
open Go.RowKit

/-- What the document's store holds: its limit, how many snapshots were made, those that are there. -/
structure RSt where
  limit : Nat
  made : Nat
  all : List (Nat × List Fl)

def flatS (s : List (Nat × Value)) : List Value := s.flatMap fun x => [.int .i64 x.1, x.2]
/-- The store lies in block b, its list of snapshots in va (sn: their numbers, their files' slices). -/
structure RefAt (w : World) (b : Nat) (r : RSt) (va vr : Value) (sn : List (Nat × Value)) : Prop where
  blk : w.heap[b]? = some (.cells #[.int .i64 r.limit, .int .i64 r.made, va, vr] 193 (0, 0))
  row : w.ownsRow 0 196 2 va sn.length (flatS sn)
  len : sn.length = r.all.length
  num : ∀ k (h : k < sn.length) (h' : k < r.all.length), sn[k].1 = r.all[k].1
  fil : ∀ k (h : k < sn.length) (h' : k < r.all.length), FilesAt w sn[k].2 r.all[k].2
  tiny : ∀ x ∈ r.all, Tiny x.2
  few : r.all.length ≤ 12
  lim : r.limit ≤ 200

def findL (all : List (Nat × List Fl)) (n : Int) : Option (List Fl) := (all.find? fun x => (x.1 : Int) == n).map (·.2)

theorem blk_cell {w : World} {b : Nat} {cs : Array Value} {t : TypeId} (h : w.heap[b]? = some (.cells cs t (0, 0))) (i : Nat) : w.cell? ⟨b, i, none⟩ = cs[i]? := by simp [World.cell?, h]
theorem blk_free {w : World} {b : Nat} {cs : Array Value} {t : TypeId} (h : w.heap[b]? = some (.cells cs t (0, 0))) (i : Nat) : w.frozen? ⟨b, i, none⟩ = false := by simp [World.frozen?, h]

/-- What find answers. -/
def FindOut (r : RSt) (sn : List (Nat × Value)) (n : Int) (e : Ending) : Prop :=
  (∃ k, ∃ (h1 : k < sn.length) (h2 : k < r.all.length), findL r.all n = some r.all[k].2 ∧ e = .returned (.tuple #[sn[k].2, .bool true])) ∨ (findL r.all n = none ∧ e = .returned (.tuple #[.slice none 0 0, .bool false]))

end Go.Proofs.YtdcbgfhkfmohiaaGreatDoor

/- Contracts of the document's answer (package canopyref): its store: Cells, keep. -/
namespace Go.Proofs.YtdcbgfhkfmohiaaGreatDoor
open Go.RowKit

theorem RefAt.later {w w' : World} {b : Nat} {r : RSt} {va vr : Value} {sn : List (Nat × Value)} (h : RefAt w b r va vr sn) {B : Nat} (hb : Below B w w') (hB : w.heap.size ≤ B) : RefAt w' b r va vr sn := by
  have hlt := (Array.getElem?_eq_some_iff.1 h.blk).1
  exact ⟨(hb.block b (by omega)).trans h.blk, ownsRow_below h.row hb hB, h.len, h.num, fun k h1 h2 => files_below (h.fil k h1 h2) hb hB, h.tiny, h.few, h.lim⟩

def cellsOf (r : RSt) : Nat := cellsL (r.all.map (·.2))

end Go.Proofs.YtdcbgfhkfmohiaaGreatDoor

/- Contracts of the document's answer (package canopyref): its store: keep. -/
namespace Go.Proofs.YtdcbgfhkfmohiaaGreatDoor
open Go.RowKit

/-- One element appended, as a step of a region that draws its order. -/
theorem step_app_at {W wr : World} {ops : Array Oper} {o : Oper} {a : Act} {K : Act → World → Prop} {Q : Exit → Act → World → Prop} {E : Prop} (t e : TypeId) (z : Value) (size bytes : Nat)
    (hinf : (Tryz.prog.info? e).map (fun i => (i.zero, i.size, i.bytes)) = some (some z, size, bytes)) (ht : Tryz.prog.underlying t = some (.slice e)) (hzs : z.cells.size = size) (hsz : 0 < size)
    (hgd : o.guard = none) (s x : Operand) (ho : o.op = .call { callee := .builtin .append, args := #[s, x], argTypes := #[t, t] })
    {base : Nat} {v : Value} {n : Nat} {xs : List Value} (hown : wr.ownsRow base e size v n xs) (cs : List Value) (hcs : cs.length = size) (h1 : ∀ u ∈ cs, u.oneCell' = true)
    (hW : Like W (wr.alloc (.cells cs.toArray e)))
    (hs : a.eval s = v) (hx : a.eval x = .slice (some ⟨wr.heap.size, 0, none⟩) 1 1)
    (hm : n + 1 ≤ maxLen) (hby : (n + 1) * bytes ≤ 140737488355328) (hbase : base ≤ wr.heap.size)
    (h : ∀ v' w', w'.ownsRow base e size v' (n + 1) (xs ++ cs) → wr.grownBy w' v.ownBlock → Moved wr v v' → K (a.put o.dst v') w') :
    if Region.wanted o (yielded ops a.tmps) = true then Oper.wp Tryz.prog o a W K Q else E := by
  obtain ⟨i0, hi, hz0, hz1, hz2⟩ := info_parts hinf
  have hz : (wr.alloc (.cells cs.toArray e)).heap.size = wr.heap.size + 1 := by simp
  have hw : Region.wanted o (yielded ops a.tmps) = true := by simp [Region.wanted, hgd]
  rw [if_pos hw]
  have hnews : ∀ j u, cs[j]? = some u → W.cell? ((⟨wr.heap.size, 0, none⟩ : Addr).add j) = some u := by
    intro j u hj
    have ha : (Addr.mk wr.heap.size 0 none).add j = ⟨wr.heap.size, j, none⟩ := by simp only [Addr.add]; split <;> simp_all
    rw [ha]; simp only [World.cell?, hW.heap, heap_alloc_new]; simpa using hj
  obtain ⟨v', w', hr, h2, h3, _, h5⟩ := run_append_own_at (P := Tryz.prog) W base t o.type e i0 z size bytes ht hi hz0 hz1 hz2 hzs hsz v n xs (hW.ownsRow (hown.alloc _)) ⟨wr.heap.size, 0, none⟩ 1 1 cs (by omega) hnews h1 hm hby (by rw [hW.heap, hz]; omega)
  unfold Oper.wp
  simp only [execOp, ho, resolve, invoke, builtin, Sem.run_bind, Sem.run_pure, Result.andThen_ok, List.map_toArray, List.map_cons, List.map_nil, hs, hx, hr]
  refine h v' w' h2 ⟨h3.os.trans hW.os, h3.tape.trans hW.tape, h3.output.trans hW.output, ?_, ?_⟩ ?_
  · have := h3.size; rw [hW.heap, hz] at this; omega
  · intro k hk hne
    rw [h3.block k (by rw [hW.heap, hz]; omega) hne, hW.heap]
    exact Below.heap_alloc wr _ k hk
  · intro k hk
    rcases h5 with h5 | h5
    · exact .inl (h5.symm.trans hk)
    · right; rw [h5, hW.heap, hz] at hk; simp at hk; omega

theorem setCell_blk {w : World} {b i : Nat} {cs : Array Value} {t : TypeId} (h : w.heap[b]? = some (.cells cs t (0, 0))) (u : Value) : (w.setCell ⟨b, i, none⟩ u).heap[b]? = some (.cells (cs.setIfInBounds i u) t (0, 0)) := by
  simp only [World.setCell, Array.getElem?_modify, h]; simp

theorem row_type {w : World} {base : Nat} {e : TypeId} {size n : Nat} {v : Value} {xs : List Value} (h : w.ownsRow base e size v n xs) {k : Nat} (hk : v.ownBlock = some k) : ∃ c, w.heap[k]? = some (.cells c e (0, 0)) := by
  rcases h.2 with ⟨rfl, _⟩ | ⟨g, cap, cur, rfl, _, hg, _⟩
  · simp [Value.ownBlock] at hk
  · simp [Value.ownBlock] at hk; subst hk; exact ⟨cur, hg⟩

/-- What keep does (P4's last words): the store behind it, the number, the error. -/
def keepR (r : RSt) (l : List Fl) : RSt × Nat × Nat :=
  if 12 ≤ r.all.length then (r, 0, 7)
  else if r.limit < cellsOf { r with all := r.all ++ [(r.made, l)] } then (r, 0, 8)
  else ({ r with all := r.all ++ [(r.made, l)], made := r.made + 1 }, r.made, 0)

/-- What a call on the store in block b may have turned: that block, its list of snapshots; else nothing that was there. -/
structure RefStep (w : World) (b : Nat) (va : Value) (sn : List (Nat × Value)) (w' : World) (va' : Value) (sn' : List (Nat × Value)) : Prop where
  os : w'.os = w.os
  tape : w'.tape = w.tape
  output : w'.output = w.output
  size : w.heap.size ≤ w'.heap.size
  block : ∀ k, k < w.heap.size → k ≠ b → va.ownBlock ≠ some k → w'.heap[k]? = w.heap[k]?
  moved : Moved w va va'
  vals : ∀ x ∈ sn', x ∈ sn ∨ ∀ k, x.2.ownBlock = some k → w.heap.size ≤ k

def KeepOut (w : World) (b : Nat) (r : RSt) (va vr : Value) (sn : List (Nat × Value)) (v : Value) (l : List Fl) (e : Ending) (w' : World) : Prop :=
  ∃ va' sn', e = .returned (.tuple #[.int .i64 (keepR r l).2.1, .int .i64 (keepR r l).2.2]) ∧ RefAt w' b (keepR r l).1 va' vr sn' ∧
    w'.os = w.os ∧ w'.tape = w.tape ∧ w'.output = w.output ∧ w.heap.size ≤ w'.heap.size ∧ (∀ k, k < w.heap.size → k ≠ b → va.ownBlock ≠ some k → w'.heap[k]? = w.heap[k]?) ∧ Moved w va va' ∧ ∀ x ∈ sn', x ∈ sn ∨ x.2 = v

/-- Behind the append of a snapshot. -/
structure Pushed (w : World) (b : Nat) (r : RSt) (va vr : Value) (sn : List (Nat × Value)) (v : Value) (l : List Fl) (wc : World) (v' : Value) : Prop where
  ref : RefAt wc b { r with all := r.all ++ [(r.made, l)] } v' vr (sn ++ [(r.made, v)])
  os : wc.os = w.os
  tape : wc.tape = w.tape
  output : wc.output = w.output
  size : w.heap.size ≤ wc.heap.size
  block : ∀ k, k < w.heap.size → k ≠ b → va.ownBlock ≠ some k → wc.heap[k]? = w.heap[k]?
  moved : Moved w va v'
  form : ∃ g cap, v' = .slice (some ⟨g, 0, none⟩) (sn.length + 1) cap

/-- Pushed, and then nothing old but the store's own block was written. -/
theorem Pushed.frame {w wc w2 w3 : World} {b : Nat} {r : RSt} {va vr v v' : Value} {sn : List (Nat × Value)} {l : List Fl} (h : Pushed w b r va vr sn v l wc v') (h2 : Below wc.heap.size wc w2) (h3 : w3.os = w2.os ∧ w3.tape = w2.tape ∧ w3.output = w2.output ∧ w3.heap.size = w2.heap.size ∧ ∀ k, k ≠ b → w3.heap[k]? = w2.heap[k]?) :
    w3.os = w.os ∧ w3.tape = w.tape ∧ w3.output = w.output ∧ w.heap.size ≤ w3.heap.size ∧ (∀ k, k < w.heap.size → k ≠ b → va.ownBlock ≠ some k → w3.heap[k]? = w.heap[k]?) := by
  have hs := h.size
  have hs2 := h2.size
  refine ⟨h3.1.trans (h2.os.trans h.os), h3.2.1.trans (h2.tape.trans h.tape), h3.2.2.1.trans (h2.output.trans h.output), by omega, ?_⟩
  intro k hk hkb hkv
  rw [h3.2.2.2.2 k hkb, h2.block k (by omega), h.block k hk hkb hkv]

theorem setCell_frame (w : World) (b i : Nat) (u : Value) : (w.setCell ⟨b, i, none⟩ u).os = w.os ∧ (w.setCell ⟨b, i, none⟩ u).tape = w.tape ∧ (w.setCell ⟨b, i, none⟩ u).output = w.output ∧ (w.setCell ⟨b, i, none⟩ u).heap.size = w.heap.size ∧ ∀ k, k ≠ b → (w.setCell ⟨b, i, none⟩ u).heap[k]? = w.heap[k]? :=
  ⟨rfl, rfl, rfl, by simp [World.setCell], fun k hk => Below.heap_setCell _ _ _ _ hk⟩

theorem keepR_many {r : RSt} {l : List Fl} (h : 12 ≤ r.all.length) : keepR r l = (r, 0, 7) := by unfold keepR; rw [if_pos h]
theorem keepR_full {r : RSt} {l : List Fl} (h : r.all.length < 12) (h2 : r.limit < cellsOf { r with all := r.all ++ [(r.made, l)] }) : keepR r l = (r, 0, 8) := by unfold keepR; rw [if_neg (by omega), if_pos h2]
theorem keepR_ok {r : RSt} {l : List Fl} (h : r.all.length < 12) (h2 : ¬ r.limit < cellsOf { r with all := r.all ++ [(r.made, l)] }) : keepR r l = ({ r with all := r.all ++ [(r.made, l)], made := r.made + 1 }, r.made, 0) := by unfold keepR; rw [if_neg (by omega), if_neg h2]

end Go.Proofs.YtdcbgfhkfmohiaaGreatDoor

/- Contracts of the document's answer (package canopyref): its store: Put, Delete. -/
namespace Go.Proofs.YtdcbgfhkfmohiaaGreatDoor
open Go.RowKit

/-- A call's whole answer: the store behind it, the number, the error. -/
def RefOut (w : World) (b : Nat) (va vr : Value) (sn : List (Nat × Value)) (o : RSt × Nat × Nat) (e : Ending) (w' : World) : Prop :=
  ∃ va' sn', e = .returned (.tuple #[.int .i64 o.2.1, .int .i64 o.2.2]) ∧ RefAt w' b o.1 va' vr sn' ∧ RefStep w b va sn w' va' sn'

def putR (r : RSt) (n : Int) (p d : Str) : RSt × Nat × Nat :=
  match findL r.all n with
  | none => (r, 0, 2)
  | some l => if isPathL p = false then (r, 0, 3) else if 30 < d.length then (r, 0, 4) else if isDirL l p || crossedL l p then (r, 0, 5) else if getI l p < 0 ∧ 20 ≤ l.length then (r, 0, 7) else keepR r (putL l (p, d))

def deleteR (r : RSt) (n : Int) (p : Str) : RSt × Nat × Nat :=
  match findL r.all n with
  | none => (r, 0, 2)
  | some l => if isPathL p = false then (r, 0, 3) else if (withoutL l p).length = l.length then (r, 0, 6) else keepR r (withoutL l p)

theorem putTo_count {l : List Fl} {f : Fl} {k : Nat} (hk : k ≤ l.length) : (putTo l f k).1.length + (l.take k).countP (fun g => g.1 == f.1) = k + (if (putTo l f k).2 then 1 else 0) := by
  induction k with
  | zero => simp [putTo_zero]
  | succ k ih =>
    have hlt : k < l.length := by omega
    have ih := ih (by omega)
    rw [putTo_succ hlt, List.take_succ_eq_append_getElem hlt, List.countP_append]
    generalize putTo l f k = st at *
    obtain ⟨out, dn⟩ := st
    simp only [putStep, List.countP_singleton] at *
    cases h1 : (l[k].1 == f.1) <;> cases dn <;> cases h2 : (lessL f.1 l[k].1 || f.1 == l[k].1) <;> simp_all <;> omega

theorem putL_len (l : List Fl) (f : Fl) : (putL l f).length + l.countP (fun g => g.1 == f.1) = l.length + 1 := by
  have h := putTo_count (l := l) (f := f) (Nat.le_refl _)
  rw [putTo_all (l := l) (f := f) (k := l.length) (Nat.le_refl _)]
  rw [List.take_length] at h
  generalize putTo l f l.length = st at *
  obtain ⟨out, dn⟩ := st
  cases dn <;> simp_all <;> omega

theorem putTo_mem {l : List Fl} {f : Fl} {k : Nat} : ∀ x ∈ (putTo l f k).1, x ∈ l ∨ x = f := by
  induction k with
  | zero => simp [putTo_zero]
  | succ k ih =>
    by_cases hlt : k < l.length
    · rw [putTo_succ hlt]
      intro x hx
      simp only [putStep, List.mem_append] at hx
      rcases hx with hx | hx
      · split at hx
        · simp at hx; rcases hx with hx | hx
          · exact ih x hx
          · exact .inr hx
        · exact ih x hx
      · split at hx
        · simp at hx
        · simp at hx; subst hx; exact .inl (List.getElem_mem hlt)
    · have : putTo l f (k + 1) = putTo l f k := by unfold putTo; rw [List.take_of_length_le (by omega), List.take_of_length_le (by omega)]
      rw [this]; exact ih
theorem putL_mem {l : List Fl} {f : Fl} : ∀ x ∈ putL l f, x ∈ l ∨ x = f := by
  intro x hx
  rw [putTo_all (l := l) (f := f) (k := l.length) (Nat.le_refl _)] at hx
  split at hx
  · exact putTo_mem x hx
  · rw [List.mem_append] at hx; rcases hx with hx | hx
    · exact putTo_mem x hx
    · simp at hx; exact .inr hx

theorem without_len (l : List Fl) (p : Str) : (withoutL l p).length ≤ l.length := by
  unfold withoutL; induction l with
  | nil => simp
  | cons f t ih => simp only [List.flatMap_cons, List.length_append]; split <;> simp only [List.length_nil, List.length_cons] <;> omega
theorem without_mem {l : List Fl} {p : Str} : ∀ x ∈ withoutL l p, x ∈ l := by
  intro x hx; unfold withoutL at hx; rw [List.mem_flatMap] at hx; obtain ⟨y, hy, hx⟩ := hx
  split at hx
  · simp at hx
  · simp at hx; subst hx; exact hy
end Go.Proofs.YtdcbgfhkfmohiaaGreatDoor
