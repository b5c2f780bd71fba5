/- Contracts of the document's answer (package canopyref): its store: Cells, keep. -/
import Derived.Test.YtdcbgfhkfmohiaaGreatDoorAs02
import Derived.Deep.RegionLaw
namespace Go.Proofs.YtdcbgfhkfmohiaaGreatDoor
open Go.RowKit

theorem Tryz.infoFiles : (Tryz.prog.info? 194).map (fun i => (i.zero, i.size, i.bytes)) = some (some (.slice none 0 0), 1, 24) := by kernel_rfl
theorem Tryz.infoSnap : (Tryz.prog.info? 196).map (fun i => (i.zero, i.size, i.bytes)) = some (some (.agg #[.int .i64 0, .slice none 0 0]), 2, 32) := by kernel_rfl

theorem RefAt.later {w w' : World} {b : Nat} {r : RSt} {va vr : Value} {sn : List (Nat × Value)} (h : RefAt w b r va vr sn) {B : Nat} (hb : Below B w w') (hB : w.heap.size ≤ B) : RefAt w' b r va vr sn := by
  have hlt := (Array.getElem?_eq_some_iff.1 h.blk).1
  exact ⟨(hb.block b (by omega)).trans h.blk, ownsRow_below h.row hb hB, h.len, h.num, fun k h1 h2 => files_below (h.fil k h1 h2) hb hB, h.tiny, h.few, h.lim⟩

def cellsOf (r : RSt) : Nat := cellsL (r.all.map (·.2))

set_option maxHeartbeats 1000000 in
theorem storeCells_any (b : Nat) (r : RSt) (va vr : Value) (sn : List (Nat × Value)) (w : World) (h : RefAt w b r va vr sn) :
    Calls Tryz.prog 101 #[.pointer (some ⟨b, 0, none⟩)] w fun e w' => e = .returned (.int .i64 (cellsOf r)) ∧ Below w.heap.size w w' := by
  have h2 := blk_cell h.blk 2
  simp at h2
  have hbl := (Array.getElem?_eq_some_iff.1 h.blk).1
  obtain ⟨ao, cap, rfl, hm, hc, hsn⟩ := snaps_view h.row
  have hlen := h.len
  have hfew := h.few
  have H : Hid _ := h
  clear h
  go_enter Tryz.func101, Tryz.ntmps101
  go_wp2
  go_loopw [3, 4] (fun v i wr => ∃ k : Nat, k ≤ sn.length ∧ i = .int .i64 k ∧ wr.ownsRow w.heap.size 194 1 v k ((sn.map (·.2)).take k) ∧ Below w.heap.size w wr) (fun _ i _ => sn.length - (intOf i).toNat)
  case atStart => exact ⟨0, Nat.zero_le _, rfl, World.ownsRow_nil _ _ _ _, Below.refl _ _⟩
  case round =>
    obtain ⟨k, hk, rfl, hown, hbel⟩ := hrel
    have hz := hbel.size
    have h2' := (hbel.cell (p := ⟨b, 2, none⟩) hbl).trans h2
    by_cases hlt : k < sn.length
    · obtain ⟨g, rfl, hg, hp, hd⟩ := hsn k hlt
      have hd' := (hbel.cell (p := ⟨g, k * 2 + 1, none⟩) hg).trans hd
      have hka : k < r.all.length := by omega
      have hF := H.out.fil k hlt hka
      obtain ⟨a3, c3, h3⟩ := row_form hF
      have R : Hid ((sn.map (·.2)).take (k + 1) = (sn.map (·.2)).take k ++ [sn[k].2]) := by rw [Hid, List.take_succ_eq_append_getElem (by simpa using hlt), List.getElem_map]
      rw [h3] at hd'
      clear hsn hp hd hF
      go_wp2_with (at_builtin; go_loud (refine wp_app 239 194 _ 1 24 Tryz.infoFiles Tryz.underlying239 rfl (by decide) rfl (.tmp 14) (.tmp 23) rfl hown [.slice a3 r.all[k].2.length c3] rfl (by intro u hu; rw [List.mem_singleton] at hu; rw [hu]; rfl) ⟨rfl, rfl, rfl, rfl⟩ rfl rfl ?_ ?_ hz ?_))
      · unfold maxLen; omega
      · omega
      intro v' w2 hown' hb'
      go_wp2
      go_roundw
      case rel => exact ⟨k + 1, by omega, by go_num, by rw [R.out, h3]; exact hown', hbel.trans hb'⟩
      case measure => simp [intOf]; omega
    · have hke : k = sn.length := by omega
      subst hke
      clear hsn hlt
      have hL : ListsAt wr u3 (r.all.map (·.2)) := by
        refine ⟨sn.map (·.2), ?_, ?_⟩
        · rw [List.length_map, ← hlen]; rw [List.take_of_length_le (by simp)] at hown; exact ownsRow_le hown (Nat.zero_le _)
        · intro j u l hu hl
          rw [List.getElem?_map, Option.map_eq_some_iff] at hu hl
          obtain ⟨x, hx, rfl⟩ := hu
          obtain ⟨y, hy, rfl⟩ := hl
          obtain ⟨hj, rfl⟩ := List.getElem?_eq_some_iff.1 hx
          obtain ⟨hj', rfl⟩ := List.getElem?_eq_some_iff.1 hy
          exact files_below (H.out.fil j hj hj') hbel (Nat.le_refl _)
      have hT : ∀ l ∈ r.all.map (·.2), Tiny l := by
        intro l hl; rw [List.mem_map] at hl; obtain ⟨x, hx, rfl⟩ := hl; exact H.out.tiny x hx
      have hN : (r.all.map (·.2)).length ≤ 20 := by simp; omega
      go_wp2_with (go_at_call 135; refine (cells_any _ _ _ hL hT hN).mono ?_; rintro e w2 ⟨rfl, hb2⟩)
      go_ret
      exact ⟨rfl, hbel.trans (hb2.mono hz)⟩

end Go.Proofs.YtdcbgfhkfmohiaaGreatDoor

/- Contracts of the document's answer (package canopyref): its store: keep. -/
namespace Go.Proofs.YtdcbgfhkfmohiaaGreatDoor
open Go.RowKit

/-- One element appended, as a step of a region that draws its order. -/
theorem step_app_at {W wr : World} {ops : Array Oper} {o : Oper} {a : Act} {K : Act → World → Prop} {Q : Exit → Act → World → Prop} {E : Prop} (t e : TypeId) (z : Value) (size bytes : Nat)
    (hinf : (Tryz.prog.info? e).map (fun i => (i.zero, i.size, i.bytes)) = some (some z, size, bytes)) (ht : Tryz.prog.underlying t = some (.slice e)) (hzs : z.cells.size = size) (hsz : 0 < size)
    (hgd : o.guard = none) (s x : Operand) (ho : o.op = .call { callee := .builtin .append, args := #[s, x], argTypes := #[t, t] })
    {base : Nat} {v : Value} {n : Nat} {xs : List Value} (hown : wr.ownsRow base e size v n xs) (cs : List Value) (hcs : cs.length = size) (h1 : ∀ u ∈ cs, u.oneCell' = true)
    (hW : Like W (wr.alloc (.cells cs.toArray e)))
    (hs : a.eval s = v) (hx : a.eval x = .slice (some ⟨wr.heap.size, 0, none⟩) 1 1)
    (hm : n + 1 ≤ maxLen) (hby : (n + 1) * bytes ≤ 140737488355328) (hbase : base ≤ wr.heap.size)
    (h : ∀ v' w', w'.ownsRow base e size v' (n + 1) (xs ++ cs) → wr.grownBy w' v.ownBlock → Moved wr v v' → K (a.put o.dst v') w') :
    if Region.wanted o (yielded ops a.tmps) = true then Oper.wp Tryz.prog o a W K Q else E := by
  obtain ⟨i0, hi, hz0, hz1, hz2⟩ := info_parts hinf
  have hz : (wr.alloc (.cells cs.toArray e)).heap.size = wr.heap.size + 1 := by simp
  have hw : Region.wanted o (yielded ops a.tmps) = true := by simp [Region.wanted, hgd]
  rw [if_pos hw]
  have hnews : ∀ j u, cs[j]? = some u → W.cell? ((⟨wr.heap.size, 0, none⟩ : Addr).add j) = some u := by
    intro j u hj
    have ha : (Addr.mk wr.heap.size 0 none).add j = ⟨wr.heap.size, j, none⟩ := by simp only [Addr.add]; split <;> simp_all
    rw [ha]; simp only [World.cell?, hW.heap, heap_alloc_new]; simpa using hj
  obtain ⟨v', w', hr, h2, h3, _, h5⟩ := run_append_own_at (P := Tryz.prog) W base t o.type e i0 z size bytes ht hi hz0 hz1 hz2 hzs hsz v n xs (hW.ownsRow (hown.alloc _)) ⟨wr.heap.size, 0, none⟩ 1 1 cs (by omega) hnews h1 hm hby (by rw [hW.heap, hz]; omega)
  unfold Oper.wp
  simp only [execOp, ho, resolve, invoke, builtin, Sem.run_bind, Sem.run_pure, Result.andThen_ok, List.map_toArray, List.map_cons, List.map_nil, hs, hx, hr]
  refine h v' w' h2 ⟨h3.os.trans hW.os, h3.tape.trans hW.tape, h3.output.trans hW.output, ?_, ?_⟩ ?_
  · have := h3.size; rw [hW.heap, hz] at this; omega
  · intro k hk hne
    rw [h3.block k (by rw [hW.heap, hz]; omega) hne, hW.heap]
    exact Below.heap_alloc wr _ k hk
  · intro k hk
    rcases h5 with h5 | h5
    · exact .inl (h5.symm.trans hk)
    · right; rw [h5, hW.heap, hz] at hk; simp at hk; omega

theorem setCell_blk {w : World} {b i : Nat} {cs : Array Value} {t : TypeId} (h : w.heap[b]? = some (.cells cs t (0, 0))) (u : Value) : (w.setCell ⟨b, i, none⟩ u).heap[b]? = some (.cells (cs.setIfInBounds i u) t (0, 0)) := by
  simp only [World.setCell, Array.getElem?_modify, h]; simp

theorem row_type {w : World} {base : Nat} {e : TypeId} {size n : Nat} {v : Value} {xs : List Value} (h : w.ownsRow base e size v n xs) {k : Nat} (hk : v.ownBlock = some k) : ∃ c, w.heap[k]? = some (.cells c e (0, 0)) := by
  rcases h.2 with ⟨rfl, _⟩ | ⟨g, cap, cur, rfl, _, hg, _⟩
  · simp [Value.ownBlock] at hk
  · simp [Value.ownBlock] at hk; subst hk; exact ⟨cur, hg⟩

theorem row_kept {w w' : World} {base : Nat} {e : TypeId} {size n : Nat} {v : Value} {xs : List Value} (h : w.ownsRow base e size v n xs) (hb : ∀ (k : Nat) (c : Array Value), w.heap[k]? = some (.cells c e (0, 0)) → w'.heap[k]? = w.heap[k]?) : w'.ownsRow base e size v n xs := by
  refine ⟨h.1, ?_⟩
  rcases h.2 with h | ⟨g, cap, cur, rfl, h2, h3, h4⟩
  · exact .inl h
  · exact .inr ⟨g, cap, cur, rfl, h2, (hb g _ h3).trans h3, h4⟩

/-- What keep does (P4's last words): the store behind it, the number, the error. -/
def keepR (r : RSt) (l : List Fl) : RSt × Nat × Nat :=
  if 12 ≤ r.all.length then (r, 0, 7)
  else if r.limit < cellsOf { r with all := r.all ++ [(r.made, l)] } then (r, 0, 8)
  else ({ r with all := r.all ++ [(r.made, l)], made := r.made + 1 }, r.made, 0)

/-- What a call on the store in block b may have turned: that block, its list of snapshots; else nothing that was there. -/
structure RefStep (w : World) (b : Nat) (va : Value) (sn : List (Nat × Value)) (w' : World) (va' : Value) (sn' : List (Nat × Value)) : Prop where
  os : w'.os = w.os
  tape : w'.tape = w.tape
  output : w'.output = w.output
  size : w.heap.size ≤ w'.heap.size
  block : ∀ k, k < w.heap.size → k ≠ b → va.ownBlock ≠ some k → w'.heap[k]? = w.heap[k]?
  moved : Moved w va va'
  vals : ∀ x ∈ sn', x ∈ sn ∨ ∀ k, x.2.ownBlock = some k → w.heap.size ≤ k

def KeepOut (w : World) (b : Nat) (r : RSt) (va vr : Value) (sn : List (Nat × Value)) (v : Value) (l : List Fl) (e : Ending) (w' : World) : Prop :=
  ∃ va' sn', e = .returned (.tuple #[.int .i64 (keepR r l).2.1, .int .i64 (keepR r l).2.2]) ∧ RefAt w' b (keepR r l).1 va' vr sn' ∧
    w'.os = w.os ∧ w'.tape = w.tape ∧ w'.output = w.output ∧ w.heap.size ≤ w'.heap.size ∧ (∀ k, k < w.heap.size → k ≠ b → va.ownBlock ≠ some k → w'.heap[k]? = w.heap[k]?) ∧ Moved w va va' ∧ ∀ x ∈ sn', x ∈ sn ∨ x.2 = v

theorem refAt_push {w w' : World} {b : Nat} {r : RSt} {va vr : Value} {sn : List (Nat × Value)} {v v' : Value} {l : List Fl} {n : Nat} (h : RefAt w b r va vr sn) (hv : FilesAt w v l) (ht : Tiny l) (h12 : r.all.length < 12)
    (h1 : w'.ownsRow 0 196 2 v' n (flatS sn ++ [.int .i64 r.made, v])) (h2 : w.grownBy w' va.ownBlock) :
    RefAt (w'.setCell ⟨b, 2, none⟩ v') b { r with all := r.all ++ [(r.made, l)] } v' vr (sn ++ [(r.made, v)]) := by
  have hbl := (Array.getElem?_eq_some_iff.1 h.blk).1
  have hva : ∀ k, va.ownBlock = some k → ∃ c, w.heap[k]? = some (.cells c 196 (0, 0)) := fun k hk => row_type h.row hk
  have hb' : w'.heap[b]? = some (.cells #[.int .i64 r.limit, .int .i64 r.made, va, vr] 193 (0, 0)) := by
    rw [h2.block b hbl ?_]; · exact h.blk
    intro e; obtain ⟨c, hc⟩ := hva b e.symm; rw [h.blk] at hc; simp at hc
  have hkeep : ∀ (k : Nat) (c : Array Value), w.heap[k]? = some (.cells c 236 (0, 0)) → (w'.setCell ⟨b, 2, none⟩ v').heap[k]? = w.heap[k]? := by
    intro k c hk
    have hkl := (Array.getElem?_eq_some_iff.1 hk).1
    rw [Below.heap_setCell _ _ _ _ ?_, h2.block k hkl ?_]
    · intro e; obtain ⟨c', hc⟩ := hva k e.symm; rw [hk] at hc; simp at hc
    · intro e; simp only at e; subst e; rw [h.blk] at hk; simp at hk
  have hlen := h.len
  have hn : n = (sn ++ [(r.made, v)]).length := by have := h1.1; rw [List.length_append, flatS_len] at this; simp at this; simp; omega
  refine ⟨?_, ?_, by simp [hlen], ?_, ?_, ?_, by simp; omega, h.lim⟩
  · rw [setCell_blk hb']; rfl
  · rw [flatS_app, ← hn]
    refine row_kept h1 ?_
    intro k c hk
    rw [Below.heap_setCell _ _ _ _ ?_]
    intro e; simp only at e; subst e; rw [hb'] at hk; simp at hk
  · intro k hk hk'
    by_cases hkl : k < sn.length
    · rw [List.getElem_append_left hkl, List.getElem_append_left (by omega)]; exact h.num k hkl (by omega)
    · have : k = sn.length := by simp at hk; omega
      subst this
      rw [List.getElem_append_right (Nat.le_refl _), List.getElem_append_right (by omega)]; simp [hlen]
  · intro k hk hk'
    by_cases hkl : k < sn.length
    · rw [List.getElem_append_left hkl, List.getElem_append_left (by omega)]; exact row_kept (h.fil k hkl (by omega)) hkeep
    · have : k = sn.length := by simp at hk; omega
      subst this
      rw [List.getElem_append_right (Nat.le_refl _), List.getElem_append_right (by omega)]; simp [hlen]; exact row_kept hv hkeep
  · intro x hx; simp at hx; rcases hx with hx | rfl
    · exact h.tiny x hx
    · exact ht

theorem refAt_pop {w : World} {b : Nat} {r : RSt} {vr : Value} {sn : List (Nat × Value)} {g n cap : Nat} {x : Nat × Value} {y : Nat × List Fl} (h : RefAt w b { r with all := r.all ++ [y] } (.slice (some ⟨g, 0, none⟩) (n + 1) cap) vr (sn ++ [x])) (hn : n = sn.length) :
    RefAt (w.setCell ⟨b, 2, none⟩ (.slice (some ⟨g, 0, none⟩) n cap)) b r (.slice (some ⟨g, 0, none⟩) n cap) vr sn := by
  have hlen : sn.length = r.all.length := by have := h.len; simpa using this
  have hother : ∀ (k : Nat) (c : Array Value) (e : TypeId), e ≠ 193 → w.heap[k]? = some (.cells c e (0, 0)) → (w.setCell ⟨b, 2, none⟩ (.slice (some ⟨g, 0, none⟩) n cap)).heap[k]? = w.heap[k]? := by
    intro k c e he hk
    rw [Below.heap_setCell _ _ _ _ ?_]
    intro e'; simp only at e'; subst e'; rw [h.blk] at hk; simp at hk; exact he hk.2.symm
  have hrow : w.ownsRow 0 196 2 (.slice (some ⟨g, 0, none⟩) n cap) sn.length (flatS sn) := by
    have h1 := h.row
    refine ⟨flatS_len sn, .inr ?_⟩
    rcases h1.2 with ⟨h2, _⟩ | ⟨g', cap', cur, h2, h3, h4, h5, h6, h7, h8⟩
    · simp at h2
    · simp at h2; obtain ⟨rfl, _, rfl⟩ := h2
      simp at h5
      refine ⟨g, cap, cur, by rw [hn], h3, h4, by omega, h6, h7, ?_⟩
      have := congrArg (List.take (sn.length * 2)) h8
      rw [List.take_take, flatS_app, List.take_append_of_le_length (by rw [flatS_len]; omega), List.take_of_length_le (l := flatS sn) (by rw [flatS_len]; omega)] at this
      rw [← this]; congr 1; simp
  refine ⟨?_, row_kept hrow fun k c hk => hother k c _ (by decide) hk, hlen, ?_, ?_, ?_, ?_, h.lim⟩
  · rw [setCell_blk h.blk]; rfl
  · intro k hk hk'
    have := h.num k (by simp; omega) (by simp; omega)
    rw [List.getElem_append_left hk] at this; simp only at this; rw [List.getElem_append_left hk'] at this; exact this
  · intro k hk hk'
    have := h.fil k (by simp; omega) (by simp; omega)
    rw [List.getElem_append_left hk] at this; simp only at this; rw [List.getElem_append_left hk'] at this
    exact row_kept this fun k c hk => hother k c _ (by decide) hk
  · intro z hz; exact h.tiny z (by simp [hz])
  · have := h.few; simp at this; omega

theorem push_blk {w w' : World} {b : Nat} {r : RSt} {va vr : Value} {sn : List (Nat × Value)} (h : RefAt w b r va vr sn) (h2 : w.grownBy w' va.ownBlock) : w'.heap[b]? = some (.cells #[.int .i64 r.limit, .int .i64 r.made, va, vr] 193 (0, 0)) := by
  have hbl := (Array.getElem?_eq_some_iff.1 h.blk).1
  rw [h2.block b hbl ?_]
  · exact h.blk
  · intro e; obtain ⟨c, hc⟩ := row_type h.row e.symm; rw [h.blk] at hc; simp at hc

theorem row_some {w : World} {base : Nat} {e : TypeId} {size n : Nat} {v : Value} {xs : List Value} (h : w.ownsRow base e size v (n + 1) xs) : ∃ g cap, v = .slice (some ⟨g, 0, none⟩) (n + 1) cap := by
  rcases h.2 with ⟨_, h⟩ | ⟨g, cap, cur, h, _⟩
  · omega
  · exact ⟨g, cap, h⟩

/-- Behind the append of a snapshot. -/
structure Pushed (w : World) (b : Nat) (r : RSt) (va vr : Value) (sn : List (Nat × Value)) (v : Value) (l : List Fl) (wc : World) (v' : Value) : Prop where
  ref : RefAt wc b { r with all := r.all ++ [(r.made, l)] } v' vr (sn ++ [(r.made, v)])
  os : wc.os = w.os
  tape : wc.tape = w.tape
  output : wc.output = w.output
  size : w.heap.size ≤ wc.heap.size
  block : ∀ k, k < w.heap.size → k ≠ b → va.ownBlock ≠ some k → wc.heap[k]? = w.heap[k]?
  moved : Moved w va v'
  form : ∃ g cap, v' = .slice (some ⟨g, 0, none⟩) (sn.length + 1) cap

theorem pushed_mk {w w' wc : World} {b : Nat} {r : RSt} {va vr : Value} {sn : List (Nat × Value)} {v v' : Value} {l : List Fl} (h : RefAt w b r va vr sn) (hv : FilesAt w v l) (ht : Tiny l) (h12 : r.all.length < 12)
    (h1 : w'.ownsRow 0 196 2 v' (sn.length + 1) (flatS sn ++ [.int .i64 r.made, v])) (h2 : w.grownBy w' va.ownBlock) (h3 : Moved w va v') (hc : Like wc (w'.setCell ⟨b, 2, none⟩ v')) : Pushed w b r va vr sn v l wc v' := by
  have R := (refAt_push h hv ht h12 h1 h2).later (hc.below (w'.setCell ⟨b, 2, none⟩ v').heap.size) (Nat.le_refl _)
  refine ⟨R, hc.os.trans h2.os, hc.tape.trans h2.tape, hc.output.trans h2.output, ?_, ?_, h3, ?_⟩
  · rw [hc.heap]; simpa [World.setCell] using h2.size
  · intro k hk hkb hkv
    rw [hc.heap, Below.heap_setCell _ _ _ _ hkb, h2.block k hk (Ne.symm hkv)]
  · rcases h1.2 with ⟨_, h⟩ | ⟨g, cap, cur, h, _⟩
    · omega
    · exact ⟨g, cap, h⟩

/-- Pushed, and then nothing old but the store's own block was written. -/
theorem Pushed.frame {w wc w2 w3 : World} {b : Nat} {r : RSt} {va vr v v' : Value} {sn : List (Nat × Value)} {l : List Fl} (h : Pushed w b r va vr sn v l wc v') (h2 : Below wc.heap.size wc w2) (h3 : w3.os = w2.os ∧ w3.tape = w2.tape ∧ w3.output = w2.output ∧ w3.heap.size = w2.heap.size ∧ ∀ k, k ≠ b → w3.heap[k]? = w2.heap[k]?) :
    w3.os = w.os ∧ w3.tape = w.tape ∧ w3.output = w.output ∧ w.heap.size ≤ w3.heap.size ∧ (∀ k, k < w.heap.size → k ≠ b → va.ownBlock ≠ some k → w3.heap[k]? = w.heap[k]?) := by
  have hs := h.size
  have hs2 := h2.size
  refine ⟨h3.1.trans (h2.os.trans h.os), h3.2.1.trans (h2.tape.trans h.tape), h3.2.2.1.trans (h2.output.trans h.output), by omega, ?_⟩
  intro k hk hkb hkv
  rw [h3.2.2.2.2 k hkb, h2.block k (by omega), h.block k hk hkb hkv]

theorem setCell_frame (w : World) (b i : Nat) (u : Value) : (w.setCell ⟨b, i, none⟩ u).os = w.os ∧ (w.setCell ⟨b, i, none⟩ u).tape = w.tape ∧ (w.setCell ⟨b, i, none⟩ u).output = w.output ∧ (w.setCell ⟨b, i, none⟩ u).heap.size = w.heap.size ∧ ∀ k, k ≠ b → (w.setCell ⟨b, i, none⟩ u).heap[k]? = w.heap[k]? :=
  ⟨rfl, rfl, rfl, by simp [World.setCell], fun k hk => Below.heap_setCell _ _ _ _ hk⟩

theorem refAt_made {w : World} {b : Nat} {r : RSt} {va vr : Value} {sn : List (Nat × Value)} (h : RefAt w b r va vr sn) (m : Nat) : RefAt (w.setCell ⟨b, 1, none⟩ (.int .i64 m)) b { r with made := m } va vr sn := by
  have hother : ∀ (k : Nat) (c : Array Value) (e : TypeId), e ≠ 193 → w.heap[k]? = some (.cells c e (0, 0)) → (w.setCell ⟨b, 1, none⟩ (.int .i64 m)).heap[k]? = w.heap[k]? := by
    intro k c e he hk
    rw [Below.heap_setCell _ _ _ _ ?_]
    intro e'; simp only at e'; subst e'; rw [h.blk] at hk; simp at hk; exact he hk.2.symm
  refine ⟨?_, row_kept h.row fun k c hk => hother k c _ (by decide) hk, h.len, h.num, fun k h1 h2 => row_kept (h.fil k h1 h2) fun k c hk => hother k c _ (by decide) hk, h.tiny, h.few, h.lim⟩
  rw [setCell_blk h.blk]; rfl

theorem keepR_many {r : RSt} {l : List Fl} (h : 12 ≤ r.all.length) : keepR r l = (r, 0, 7) := by unfold keepR; rw [if_pos h]
theorem keepR_full {r : RSt} {l : List Fl} (h : r.all.length < 12) (h2 : r.limit < cellsOf { r with all := r.all ++ [(r.made, l)] }) : keepR r l = (r, 0, 8) := by unfold keepR; rw [if_neg (by omega), if_pos h2]
theorem keepR_ok {r : RSt} {l : List Fl} (h : r.all.length < 12) (h2 : ¬ r.limit < cellsOf { r with all := r.all ++ [(r.made, l)] }) : keepR r l = ({ r with all := r.all ++ [(r.made, l)], made := r.made + 1 }, r.made, 0) := by unfold keepR; rw [if_neg (by omega), if_neg h2]

set_option maxHeartbeats 2000000 in
theorem keep_any (b : Nat) (r : RSt) (va vr : Value) (sn : List (Nat × Value)) (v : Value) (l : List Fl) (w : World) (h : RefAt w b r va vr sn) (hv : FilesAt w v l) (ht : Tiny l) (hmade : r.made < 4611686018427387904) :
    Calls Tryz.prog 130 #[.pointer (some ⟨b, 0, none⟩), v] w fun e w' => KeepOut w b r va vr sn v l e w' := by
  have h0 := blk_cell h.blk 0
  have h1 := blk_cell h.blk 1
  have h2 := blk_cell h.blk 2
  simp at h0 h1 h2
  have hfz := blk_free h.blk
  have hbl := (Array.getElem?_eq_some_iff.1 h.blk).1
  have Hlen : Hid _ := h.len
  have hl1 : sn.length ≤ r.all.length := by have := h.len; omega
  have hl2 : r.all.length ≤ sn.length := by have := h.len; omega
  have hlim := h.lim
  have H : Hid _ := h
  obtain ⟨ao, cap, hva⟩ := row_form h.row
  obtain ⟨aov, capv, hvv⟩ := row_form hv
  by_cases h12 : 12 ≤ r.all.length
  · have R : Hid _ := keepR_many (l := l) h12
    clear h
    subst hva hvv
    go_enter Tryz.func130, Tryz.ntmps130
    go_wp2
    go_ret2
    refine ⟨_, sn, ?_, ?_, rfl, rfl, rfl, Nat.le_refl _, fun _ _ _ _ => rfl, Moved.refl _ _, fun x hx => .inl hx⟩
    · rw [R.out]; rfl
    · rw [R.out]; exact H.out
  · have h12' : r.all.length < 12 := by omega
    have hrow := h.row
    have hnb : ∀ g, ao = some ⟨g, 0, none⟩ → g ≠ b := by
      intro g hg e; subst e
      obtain ⟨c, hc⟩ := row_type hrow (k := g) (by rw [hva, hg]; rfl)
      rw [h.blk] at hc; simp at hc
    clear h
    subst hva hvv
    go_enter Tryz.func130, Tryz.ntmps130
    go_wp2
    go_cut [6] (fun _ wc => ∃ v', Pushed w b r (.slice ao sn.length cap) vr sn (.slice aov l.length capv) l wc v')
    case first =>
      go_region_law (refine step_app_at 190 196 _ 2 32 Tryz.infoSnap Tryz.underlying190 rfl (by decide) rfl (.tmp 17) (.tmp 24) rfl hrow [.int .i64 r.made, .slice aov l.length capv] rfl (by intro u hu; simp at hu; rcases hu with rfl | rfl <;> rfl) ⟨rfl, rfl, rfl, rfl⟩ rfl rfl (by unfold maxLen; omega) (by omega) (Nat.zero_le _) ?_; intro v' w' hown' hg hmv; have hb' := push_blk H.out hg; have hc2 := blk_cell hb' 2; have hf2 := blk_free hb' 2; simp only [List.getElem?_toArray, List.getElem?_cons_succ, List.getElem?_cons_zero] at hc2; clear hb'; obtain ⟨g', cap', rfl⟩ := row_some hown')
      all_goals
        go_wp2_with fail
        go_meet
        case rel => exact ⟨_, pushed_mk H.out hv ht h12' (by assumption) (by assumption) (by assumption) ⟨rfl, rfl, rfl, rfl⟩⟩
    case rest =>
      obtain ⟨v', hP⟩ := hcut
      obtain ⟨g', cap', rfl⟩ := hP.form
      have H2 : Hid _ := hP.ref
      clear h0 h1 h2 hfz hrow hnb
      have h0 := blk_cell H2.out.blk 0
      have h1 := blk_cell H2.out.blk 1
      have h2 := blk_cell H2.out.blk 2
      simp at h0 h1 h2
      have hbl2 := (Array.getElem?_eq_some_iff.1 H2.out.blk).1
      go_wp2_with fail
      refine (storeCells_any b _ _ vr _ _ H2.out).mono ?_
      rintro e w2 ⟨rfl, hb2⟩
      have H3 := H2.out.later hb2 (Nat.le_refl _)
      clear h0 h1 h2
      have h0 := blk_cell H3.blk 0
      have h1 := blk_cell H3.blk 1
      have h2 := blk_cell H3.blk 2
      have hfz := blk_free H3.blk
      simp at h0 h1 h2
      by_cases hC : r.limit < cellsOf { r with all := r.all ++ [(r.made, l)] }
      · have R : Hid _ := keepR_full h12' hC
        have HP : Hid _ := hP
        clear hP
        generalize cellsOf { r with all := r.all ++ [(r.made, l)] } = C at *
        have hcapI : (sn.length : Int) ≤ (cap' : Int) := by
          rcases H3.row.2 with ⟨h, _⟩ | ⟨_, _, _, h, _, _, h5, _⟩
          · simp at h
          · simp at h h5; omega
        go_wp2
        go_region
        go_wp2
        go_ret2
        have F := (HP.out).frame hb2 (setCell_frame w2 b 2 (.slice (some ⟨g', 0, none⟩) sn.length cap'))
        refine ⟨.slice (some ⟨g', 0, none⟩) sn.length cap', sn, ?_, ?_, F.1, F.2.1, F.2.2.1, F.2.2.2.1, F.2.2.2.2, HP.out.moved, fun x hx => .inl hx⟩
        · rw [R.out]; rfl
        · rw [R.out]; exact (refAt_pop H3 rfl).later ((Below.refl _ _).drew) (Nat.le_refl _)
      · have R : Hid _ := keepR_ok h12' hC
        have HP : Hid _ := hP
        clear hP
        generalize cellsOf { r with all := r.all ++ [(r.made, l)] } = C at *
        go_wp2
        go_ret2
        have F := (HP.out).frame hb2 (setCell_frame w2 b 1 (.int .i64 (r.made + 1 : Nat)))
        refine ⟨.slice (some ⟨g', 0, none⟩) (sn.length + 1) cap', sn ++ [(r.made, .slice aov l.length capv)], ?_, ?_, F.1, F.2.1, F.2.2.1, F.2.2.2.1, F.2.2.2.2, HP.out.moved, ?_⟩
        · rw [R.out]; rfl
        · rw [R.out]; exact refAt_made H3 (r.made + 1)
        · intro x hx; simp at hx; rcases hx with hx | rfl
          · exact .inl hx
          · exact .inr rfl

end Go.Proofs.YtdcbgfhkfmohiaaGreatDoor

/- Contracts of the document's answer (package canopyref): its store: Put, Delete. -/
namespace Go.Proofs.YtdcbgfhkfmohiaaGreatDoor
open Go.RowKit

/-- A call's whole answer: the store behind it, the number, the error. -/
def RefOut (w : World) (b : Nat) (va vr : Value) (sn : List (Nat × Value)) (o : RSt × Nat × Nat) (e : Ending) (w' : World) : Prop :=
  ∃ va' sn', e = .returned (.tuple #[.int .i64 o.2.1, .int .i64 o.2.2]) ∧ RefAt w' b o.1 va' vr sn' ∧ RefStep w b va sn w' va' sn'

theorem refStep_below {w w' : World} {b : Nat} {va : Value} {sn : List (Nat × Value)} (h : Below w.heap.size w w') : RefStep w b va sn w' va sn :=
  ⟨h.os, h.tape, h.output, h.size, fun k hk _ _ => h.block k hk, Moved.refl _ _, fun _ hx => .inl hx⟩

/-- Nothing done but reading. -/
theorem refOut_no {w w' : World} {b : Nat} {r : RSt} {va vr : Value} {sn : List (Nat × Value)} {o : RSt × Nat × Nat} {n er : Nat} {e : Ending} (h : RefAt w b r va vr sn) (hb : Below w.heap.size w w') (ho : o = (r, n, er)) (he : e = .returned (.tuple #[.int .i64 n, .int .i64 er])) : RefOut w b va vr sn o e w' := by
  subst ho
  exact ⟨va, sn, he, h.later hb (Nat.le_refl _), refStep_below hb⟩

/-- keep, behind reading; the list is new. -/
theorem refOut_keep {w w1 w' : World} {b : Nat} {r : RSt} {va vr : Value} {sn : List (Nat × Value)} {v : Value} {l : List Fl} {o : RSt × Nat × Nat} {e : Ending} (hb : Below w.heap.size w w1) (hv : ∀ k, v.ownBlock = some k → w.heap.size ≤ k)
    (hk : KeepOut w1 b r va vr sn v l e w') (ho : o = keepR r l) : RefOut w b va vr sn o e w' := by
  subst ho
  obtain ⟨va', sn', he, hr, hos, htp, hou, hsz, hbl, hmv, hx⟩ := hk
  have hs := hb.size
  refine ⟨va', sn', he, hr, ⟨hos.trans hb.os, htp.trans hb.tape, hou.trans hb.output, by omega, ?_, ?_, ?_⟩⟩
  · intro k hk hkb hkv; rw [hbl k (by omega) hkb hkv, hb.block k hk]
  · intro k hk
    rcases hmv k hk with h | h
    · exact .inl h
    · exact .inr (by omega)
  · intro x hx'
    rcases hx x hx' with h | h
    · exact .inl h
    · right; intro k hk; rw [h] at hk; exact hv k hk

def putR (r : RSt) (n : Int) (p d : Str) : RSt × Nat × Nat :=
  match findL r.all n with
  | none => (r, 0, 2)
  | some l => if isPathL p = false then (r, 0, 3) else if 30 < d.length then (r, 0, 4) else if isDirL l p || crossedL l p then (r, 0, 5) else if getI l p < 0 ∧ 20 ≤ l.length then (r, 0, 7) else keepR r (putL l (p, d))

def deleteR (r : RSt) (n : Int) (p : Str) : RSt × Nat × Nat :=
  match findL r.all n with
  | none => (r, 0, 2)
  | some l => if isPathL p = false then (r, 0, 3) else if (withoutL l p).length = l.length then (r, 0, 6) else keepR r (withoutL l p)

theorem putTo_count {l : List Fl} {f : Fl} {k : Nat} (hk : k ≤ l.length) : (putTo l f k).1.length + (l.take k).countP (fun g => g.1 == f.1) = k + (if (putTo l f k).2 then 1 else 0) := by
  induction k with
  | zero => simp [putTo_zero]
  | succ k ih =>
    have hlt : k < l.length := by omega
    have ih := ih (by omega)
    rw [putTo_succ hlt, List.take_succ_eq_append_getElem hlt, List.countP_append]
    generalize putTo l f k = st at *
    obtain ⟨out, dn⟩ := st
    simp only [putStep, List.countP_singleton] at *
    cases h1 : (l[k].1 == f.1) <;> cases dn <;> cases h2 : (lessL f.1 l[k].1 || f.1 == l[k].1) <;> simp_all <;> omega

theorem putL_len (l : List Fl) (f : Fl) : (putL l f).length + l.countP (fun g => g.1 == f.1) = l.length + 1 := by
  have h := putTo_count (l := l) (f := f) (Nat.le_refl _)
  rw [putTo_all (l := l) (f := f) (k := l.length) (Nat.le_refl _)]
  rw [List.take_length] at h
  generalize putTo l f l.length = st at *
  obtain ⟨out, dn⟩ := st
  cases dn <;> simp_all <;> omega

theorem putTo_mem {l : List Fl} {f : Fl} {k : Nat} : ∀ x ∈ (putTo l f k).1, x ∈ l ∨ x = f := by
  induction k with
  | zero => simp [putTo_zero]
  | succ k ih =>
    by_cases hlt : k < l.length
    · rw [putTo_succ hlt]
      intro x hx
      simp only [putStep, List.mem_append] at hx
      rcases hx with hx | hx
      · split at hx
        · simp at hx; rcases hx with hx | hx
          · exact ih x hx
          · exact .inr hx
        · exact ih x hx
      · split at hx
        · simp at hx
        · simp at hx; subst hx; exact .inl (List.getElem_mem hlt)
    · have : putTo l f (k + 1) = putTo l f k := by unfold putTo; rw [List.take_of_length_le (by omega), List.take_of_length_le (by omega)]
      rw [this]; exact ih
theorem putL_mem {l : List Fl} {f : Fl} : ∀ x ∈ putL l f, x ∈ l ∨ x = f := by
  intro x hx
  rw [putTo_all (l := l) (f := f) (k := l.length) (Nat.le_refl _)] at hx
  split at hx
  · exact putTo_mem x hx
  · rw [List.mem_append] at hx; rcases hx with hx | hx
    · exact putTo_mem x hx
    · simp at hx; exact .inr hx

theorem getI_neg {l : List Fl} {p : Str} (h : ¬ getI l p < 0) : 0 < l.countP (fun g => g.1 == p) := by
  unfold getI at h
  split at h
  · rename_i k hk
    unfold getL at hk; rw [List.findIdx?_eq_some_iff_getElem] at hk
    obtain ⟨h1, h2, _⟩ := hk
    exact List.countP_pos_iff.2 ⟨l[k], List.getElem_mem h1, h2⟩
  · omega

theorem put_tiny {l : List Fl} {p d : Str} (h : Tiny l) (hp : p.length ≤ 100) (hd : d.length ≤ 30) (hn : ¬ (getI l p < 0 ∧ 20 ≤ l.length)) : Tiny (putL l (p, d)) := by
  have h1 := putL_len l (p, d)
  have h2 := h.1
  refine ⟨?_, ?_⟩
  · by_cases hg : getI l p < 0
    · omega
    · have := getI_neg hg; simp only at h1; omega
  · intro f hf
    rcases putL_mem f hf with h3 | h3
    · exact h.2 f h3
    · subst h3; exact ⟨hp, hd⟩

theorem without_len (l : List Fl) (p : Str) : (withoutL l p).length ≤ l.length := by
  unfold withoutL; induction l with
  | nil => simp
  | cons f t ih => simp only [List.flatMap_cons, List.length_append]; split <;> simp only [List.length_nil, List.length_cons] <;> omega
theorem without_mem {l : List Fl} {p : Str} : ∀ x ∈ withoutL l p, x ∈ l := by
  intro x hx; unfold withoutL at hx; rw [List.mem_flatMap] at hx; obtain ⟨y, hy, hx⟩ := hx
  split at hx
  · simp at hx
  · simp at hx; subst hx; exact hy
theorem without_tiny {l : List Fl} (h : Tiny l) (p : Str) : Tiny (withoutL l p) := ⟨Nat.le_trans (without_len l p) h.1, fun f hf => h.2 f (without_mem f hf)⟩
theorem isPathL_len {p : Str} (h : isPathL p = true) : p.length ≤ 100 := by
  unfold isPathL at h; simp at h; exact h.1.1

theorem row_fresh {w w' : World} {e : TypeId} {size n : Nat} {v : Value} {xs : List Value} (h : w'.ownsRow w.heap.size e size v n xs) : ∀ k, v.ownBlock = some k → w.heap.size ≤ k := fun k hk => (h.lt k hk).1

set_option maxHeartbeats 2000000 in
theorem refPut_any (b : Nat) (r : RSt) (va vr : Value) (sn : List (Nat × Value)) (n : Int) (p d : Str) (w : World) (h : RefAt w b r va vr sn) (hmade : r.made < 4611686018427387904) (hp : p.length < maxLen) (hd : d.length ≤ maxLen) :
    Calls Tryz.prog 97 #[.pointer (some ⟨b, 0, none⟩), .int .i64 n, SV p, SV d] w fun e w' => RefOut w b va vr sn (putR r n p d) e w' := by
  have H : Hid _ := h
  clear h
  have hp' : p.length ≤ maxLen := by omega
  unfold maxLen at hd
  have hd' : (d.length : Int) ≤ 9223372036854775807 := by omega
  go_enter Tryz.func97, Tryz.ntmps97
  go_wp2_with fail
  refine (find_any b r va vr sn n _ H.out).mono ?_
  rintro e w1 ⟨rfl, hf⟩
  rcases hf with ⟨k, h1, h2, hfl, rfl⟩ | ⟨hfl, rfl⟩
  · have hF := H.out.fil k h1 h2
    have hT := H.out.tiny r.all[k] (List.getElem_mem h2)
    have RR : Hid (putR r n p d = if isPathL p = false then (r, 0, 3) else if 30 < d.length then (r, 0, 4) else if isDirL r.all[k].2 p || crossedL r.all[k].2 p then (r, 0, 5) else if getI r.all[k].2 p < 0 ∧ 20 ≤ r.all[k].2.length then (r, 0, 7) else keepR r (putL r.all[k].2 (p, d))) := by
      rw [Hid, putR, hfl]
    generalize r.all[k].2 = l at *
    generalize sn[k].2 = v at *
    obtain ⟨ao, cap, rfl⟩ := row_form hF
    have hl20 := hT.1
    clear hfl h1 h2
    go_wp2_with fail
    refine (isPath_any p _ hp').mono ?_
    rintro e w2 ⟨rfl, hb2⟩
    have hF2 := files_below hF hb2 (Nat.le_refl _)
    cases hpa : isPathL p
    · have R : Hid _ := RR.out
      rw [hpa, if_pos rfl] at R
      go_wp2
      go_ret2
      exact refOut_no H.out hb2 R.out rfl
    · have hp100 := isPathL_len hpa
      by_cases h30 : 30 < d.length
      · have R : Hid _ := RR.out
        rw [hpa, if_neg (by simp), if_pos h30] at R
        go_wp2
        go_ret2
        exact refOut_no H.out hb2 R.out rfl
      · go_wp2_with fail
        refine (isDir_any l _ p _ hF2 hT.small hp).mono ?_
        rintro e w3 ⟨rfl, hb3⟩
        have hF3 := files_below hF2 hb3 (Nat.le_refl _)
        go_wp2_with fail
        refine (crossed_any l _ p _ hF3 hT.small hp').mono ?_
        rintro e w4 ⟨rfl, rfl⟩
        have hb : Below w1.heap.size w1 w4 := hb2.trans (hb3.mono hb2.size)
        cases hdir : isDirL l p
        · cases hcr : crossedL l p
          · go_wp2_with fail
            refine (get_any l _ p _ hF3).mono ?_
            rintro e w5 ⟨rfl, rfl⟩
            by_cases hm : getI l p < 0 ∧ 20 ≤ l.length
            · obtain ⟨hm1, hm2⟩ := hm
              have R : Hid (putR r n p d = (r, 0, 7)) := by rw [Hid, RR.out, hpa, hdir, hcr, if_neg (by simp), if_neg h30, if_neg (by simp), if_pos ⟨hm1, hm2⟩]
              go_wp2_with fail
              go_ret2
              exact refOut_no H.out hb R.out rfl
            · have R : Hid (putR r n p d = keepR r (putL l (p, d))) := by rw [Hid, RR.out, hpa, hdir, hcr, if_neg (by simp), if_neg h30, if_neg (by simp), if_neg hm]
              have hT2 := put_tiny (d := d) hT hp100 (by omega) hm
              have hH4 := H.out.later hb (Nat.le_refl _)
              by_cases hm1 : getI l p < 0
              · have hm2 : ¬ 20 ≤ l.length := fun h => hm ⟨hm1, h⟩
                clear hm
                go_wp2_with fail
                refine (put_any l _ (p, d) _ hF3 hT.small (by simp only; omega)).mono ?_
                rintro e w6 ⟨v6, rfl, hown6, hb6⟩
                have hH6 := hH4.later hb6 (Nat.le_refl _)
                have hb7 := hb.trans (hb6.mono hb.size)
                have hfr : ∀ k, v6.ownBlock = some k → w5.heap.size ≤ k := row_fresh hown6
                have hF6 : FilesAt w6 v6 (putL l (p, d)) := ownsRow_le hown6 (Nat.zero_le _)
                clear hown6 hb6 hH4
                go_wp2_with fail
                refine (keep_any b r va vr sn v6 (putL l (p, d)) _ hH6 hF6 hT2 hmade).mono ?_
                intro e w7 hk
                have hO := refOut_keep hb7 (fun k hk => Nat.le_trans hb.size (hfr k hk)) hk R.out
                clear hk
                obtain ⟨va', sn', rfl, hO⟩ := hO
                go_wp2_with fail
                go_ret2
                exact ⟨va', sn', rfl, hO⟩
              · clear hm
                go_wp2_with fail
                refine (put_any l _ (p, d) _ hF3 hT.small (by simp only; omega)).mono ?_
                rintro e w6 ⟨v6, rfl, hown6, hb6⟩
                have hH6 := hH4.later hb6 (Nat.le_refl _)
                have hb7 := hb.trans (hb6.mono hb.size)
                have hfr : ∀ k, v6.ownBlock = some k → w5.heap.size ≤ k := row_fresh hown6
                have hF6 : FilesAt w6 v6 (putL l (p, d)) := ownsRow_le hown6 (Nat.zero_le _)
                clear hown6 hb6 hH4
                go_wp2_with fail
                refine (keep_any b r va vr sn v6 (putL l (p, d)) _ hH6 hF6 hT2 hmade).mono ?_
                intro e w7 hk
                have hO := refOut_keep hb7 (fun k hk => Nat.le_trans hb.size (hfr k hk)) hk R.out
                clear hk
                obtain ⟨va', sn', rfl, hO⟩ := hO
                go_wp2_with fail
                go_ret2
                exact ⟨va', sn', rfl, hO⟩
          · have R : Hid (putR r n p d = (r, 0, 5)) := by rw [Hid, RR.out, hpa, hdir, hcr, if_neg (by simp), if_neg h30, if_pos (by simp)]
            go_wp2_with fail
            go_ret2
            exact refOut_no H.out hb R.out rfl
        · have R : Hid (putR r n p d = (r, 0, 5)) := by rw [Hid, RR.out, hpa, hdir, if_neg (by simp), if_neg h30, if_pos (by simp)]
          go_wp2_with fail
          go_ret2
          exact refOut_no H.out hb R.out rfl
  · have R : Hid (putR r n p d = (r, 0, 2)) := by rw [Hid, putR, hfl]
    clear hfl
    go_wp2
    go_ret2
    exact refOut_no H.out (Below.refl _ _) R.out rfl

set_option maxHeartbeats 2000000 in
theorem refDelete_any (b : Nat) (r : RSt) (va vr : Value) (sn : List (Nat × Value)) (n : Int) (p : Str) (w : World) (h : RefAt w b r va vr sn) (hmade : r.made < 4611686018427387904) (hp : p.length < maxLen) :
    Calls Tryz.prog 98 #[.pointer (some ⟨b, 0, none⟩), .int .i64 n, SV p] w fun e w' => RefOut w b va vr sn (deleteR r n p) e w' := by
  have H : Hid _ := h
  clear h
  have hp' : p.length ≤ maxLen := by omega
  go_enter Tryz.func98, Tryz.ntmps98
  go_wp2_with fail
  refine (find_any b r va vr sn n _ H.out).mono ?_
  rintro e w1 ⟨rfl, hf⟩
  rcases hf with ⟨k, h1, h2, hfl, rfl⟩ | ⟨hfl, rfl⟩
  · have hF := H.out.fil k h1 h2
    have hT := H.out.tiny r.all[k] (List.getElem_mem h2)
    have RR : Hid (deleteR r n p = if isPathL p = false then (r, 0, 3) else if (withoutL r.all[k].2 p).length = r.all[k].2.length then (r, 0, 6) else keepR r (withoutL r.all[k].2 p)) := by
      rw [Hid, deleteR, hfl]
    generalize r.all[k].2 = l at *
    generalize sn[k].2 = v at *
    obtain ⟨ao, cap, rfl⟩ := row_form hF
    have hl20 := hT.1
    clear hfl h1 h2
    go_wp2_with fail
    refine (isPath_any p _ hp').mono ?_
    rintro e w2 ⟨rfl, hb2⟩
    have hF2 := files_below hF hb2 (Nat.le_refl _)
    cases hpa : isPathL p
    · have R : Hid _ := RR.out
      rw [hpa, if_pos rfl] at R
      go_wp2
      go_ret2
      exact refOut_no H.out hb2 R.out rfl
    · have hT2 := without_tiny hT p
      have hl2 := hT2.1
      have hH2 := H.out.later hb2 (Nat.le_refl _)
      go_wp2_with fail
      refine (without_any l _ p _ hF2 hT.small hp).mono ?_
      rintro e w6 ⟨v6, rfl, hown6, hb6⟩
      have hH6 := hH2.later hb6 (Nat.le_refl _)
      have hb7 := hb2.trans (hb6.mono hb2.size)
      have hfr : ∀ k, v6.ownBlock = some k → w2.heap.size ≤ k := row_fresh hown6
      have hF6 : FilesAt w6 v6 (withoutL l p) := ownsRow_le hown6 (Nat.zero_le _)
      obtain ⟨ao6, cap6, rfl⟩ := row_form hown6
      clear hown6 hb6 hH2
      cases he : (((withoutL l p).length : Int) == (l.length : Int))
      · have R : Hid (deleteR r n p = keepR r (withoutL l p)) := by
          rw [Hid, RR.out, hpa, if_neg (by simp), if_neg]; intro e; rw [e] at he; simp at he
        go_wp2_with fail
        refine (keep_any b r va vr sn _ (withoutL l p) _ hH6 hF6 hT2 hmade).mono ?_
        intro e w7 hk
        have hO := refOut_keep hb7 (fun k hk => Nat.le_trans hb2.size (hfr k hk)) hk R.out
        clear hk
        obtain ⟨va', sn', rfl, hO⟩ := hO
        go_wp2_with fail
        go_ret2
        exact ⟨va', sn', rfl, hO⟩
      · have R : Hid (deleteR r n p = (r, 0, 6)) := by
          rw [Hid, RR.out, hpa, if_neg (by simp), if_pos]; simp at he; omega
        go_wp2_with fail
        go_ret2
        exact refOut_no H.out hb7 R.out rfl
  · have R : Hid (deleteR r n p = (r, 0, 2)) := by rw [Hid, deleteR, hfl]
    clear hfl
    go_wp2
    go_ret2
    exact refOut_no H.out (Below.refl _ _) R.out rfl

end Go.Proofs.YtdcbgfhkfmohiaaGreatDoor
