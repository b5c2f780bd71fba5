/- The arguments opened; the contract of Edits. -/
import Derived.Test.YtdcbgfhkfmohiaaGreatDoorAl34
import Derived.Test.YtdcbgfhkfmohiaaGreatDoorCards
import Derived.Test.YtdcbgfhkfmohiaaGreatDoorTie
import Derived.ProofKit
import Derived.OpenShut
import Derived.Deep.Slices
import Derived.SizedLaws
import Derived.Shelf.Vars
namespace Go.Proofs.YtdcbgfhkfmohiaaGreatDoor
open Go.ChangeShapes Go.WideShapes Go.ChangeAt Go.RowKit Go.Deep
theorem max_shaped {W:World} (h:W.ShapedOpen Tryz.prog):MaxOk W :=
 Go.Proofs.cell_of_shapedOpen_int (zero:=#[.int .i64 0]) (t:=3) h (of_decide_eq_true (by kernel_rfl)) (by kernel_rfl) rfl (by kernel_rfl) (by kernel_rfl) Tryz.underlying3
theorem Tryz.laidOut:laidOutB Tryz.prog = true:=by kernel_rfl
theorem Tryz.cellsOp:Tryz.prog.cellsOf 78 = 7:=by kernel_rfl
theorem Tryz.cellsInt:Tryz.prog.cellsOf 3 = 1:=by kernel_rfl
theorem Tryz.cellsStr:Tryz.prog.cellsOf 9 = 1:=by kernel_rfl
theorem Tryz.cellsStrs:Tryz.prog.cellsOf 48 = 1:=by kernel_rfl
theorem Tryz.bytesOp:Tryz.prog.bytesOf 78 = 88:=by kernel_rfl
theorem weights_slice {H:Type} {P:Program} {t e:TypeId} {elems spare:List (DataW H)} (hu:P.underlying t = some (.slice e)) {d:DataW H} (hd:d ∈ elems) {n:Nat} (hn:n ∈ d.weights P e):n ∈ (DataW.slice elems spare).weights P t:=by
 have h1:∀ l:List (DataW H),d ∈ l→n ∈ DataW.weightsAll P e l:=by
  intro l
  induction l with
  | nil => intro h;simp at h
  | cons a l ih =>
   intro h
   simp only [DataW.weightsAll,List.mem_append]
   simp only [List.mem_cons] at h
   rcases h with rfl | h
   ·exact .inl hn
   ·exact .inr (ih h)
 simp only [DataW.weights,hu,List.mem_cons,List.mem_append]
 exact .inr (.inl (h1 elems hd))
theorem wf_in {n:Int} (h:(Lit.int .i64 n).wf = true):InI n:=by
 simp only [Lit.wf,Bool.and_eq_true,decide_eq_true_eq] at h
 have h1:IntKind.i64.min = -9223372036854775808:=by decide
 have h2:IntKind.i64.max = 9223372036854775807:=by decide
 rw [h1,h2] at h
 unfold InI;omega
theorem seven {α:Type} {l:List α} (h:l.length = 7):∃ a b c d e f g,l = [a,b,c,d,e,f,g]:=by
 obtain ⟨a,l,rfl⟩:=List.exists_cons_of_length_pos (by omega:0 < l.length)
 simp only [List.length_cons] at h
 obtain ⟨b,l,rfl⟩:=List.exists_cons_of_length_pos (by omega:0 < l.length)
 simp only [List.length_cons] at h
 obtain ⟨c,l,rfl⟩:=List.exists_cons_of_length_pos (by omega:0 < l.length)
 simp only [List.length_cons] at h
 obtain ⟨d,l,rfl⟩:=List.exists_cons_of_length_pos (by omega:0 < l.length)
 simp only [List.length_cons] at h
 obtain ⟨e,l,rfl⟩:=List.exists_cons_of_length_pos (by omega:0 < l.length)
 simp only [List.length_cons] at h
 obtain ⟨f,l,rfl⟩:=List.exists_cons_of_length_pos (by omega:0 < l.length)
 simp only [List.length_cons] at h
 obtain ⟨g,l,rfl⟩:=List.exists_cons_of_length_pos (by omega:0 < l.length)
 simp only [List.length_cons] at h
 obtain rfl:l = []:=List.eq_nil_of_length_eq_zero (by omega)
 exact ⟨a,b,c,d,e,f,g,rfl⟩
theorem open_op {H:Type} {enc:TypeId × Value→H} {W:World} {sp:Nat→Bool} {held:Bool} {fuel:Nat} {cs:List Value} {x:DataW H × List MemPlace} (h:DataW.trod enc Tryz.prog W 0 sp held fuel 78 cs = some x) :
  ∃ o:OpD,cs = o.cells∧InI o.W∧(o.S.length ∈ x.1.weights Tryz.prog 78)∧(o.T.length ∈ x.1.weights Tryz.prog 78):=by
 obtain ⟨xs,n,rfl,rfl,hl,hxl,hf⟩:=DataW.trod_struct Tryz.underlying78 h
 rw [Tryz.cellsOp] at hl
 obtain ⟨c0,c1,c2,c3,c4,c5,c6,rfl⟩:=seven hl
 obtain ⟨x0,x1,x2,x3,x4,x5,x6,rfl⟩:=seven (show xs.length = 7 from hxl)
 have f0:DataW.trod enc Tryz.prog W 0 sp held n 3 (([c0,c1,c2,c3,c4,c5,c6].drop 0).take (Tryz.prog.cellsOf 3)) = some x0:=hf 0 _ rfl
 have f1:DataW.trod enc Tryz.prog W 0 sp held n 3 (([c0,c1,c2,c3,c4,c5,c6].drop 1).take (Tryz.prog.cellsOf 3)) = some x1:=hf 1 _ rfl
 have f2:DataW.trod enc Tryz.prog W 0 sp held n 3 (([c0,c1,c2,c3,c4,c5,c6].drop 2).take (Tryz.prog.cellsOf 3)) = some x2:=hf 2 _ rfl
 have f3:DataW.trod enc Tryz.prog W 0 sp held n 3 (([c0,c1,c2,c3,c4,c5,c6].drop 3).take (Tryz.prog.cellsOf 3)) = some x3:=hf 3 _ rfl
 have f4:DataW.trod enc Tryz.prog W 0 sp held n 9 (([c0,c1,c2,c3,c4,c5,c6].drop 4).take (Tryz.prog.cellsOf 9)) = some x4:=hf 4 _ rfl
 have f5:DataW.trod enc Tryz.prog W 0 sp held n 9 (([c0,c1,c2,c3,c4,c5,c6].drop 5).take (Tryz.prog.cellsOf 9)) = some x5:=hf 5 _ rfl
 rw [Tryz.cellsInt] at f0 f1 f2 f3
 rw [Tryz.cellsStr] at f4 f5
 obtain ⟨n0,e0,_,_⟩:=DataW.trod_int Tryz.underlying3 f0
 obtain ⟨n1,e1,_,w1⟩:=DataW.trod_int Tryz.underlying3 f1
 obtain ⟨n2,e2,_,_⟩:=DataW.trod_int Tryz.underlying3 f2
 obtain ⟨n3,e3,_,_⟩:=DataW.trod_int Tryz.underlying3 f3
 obtain ⟨s4,e4,y4,_⟩:=DataW.trod_string Tryz.underlying9 f4
 obtain ⟨s5,e5,y5,_⟩:=DataW.trod_string Tryz.underlying9 f5
 simp at e0 e1 e2 e3 e4 e5
 subst e0 e1 e2 e3 e4 e5 y4 y5
 refine ⟨⟨n0,n1,n2,n3,s4.data.toList,s5.data.toList,c6⟩,?_,wf_in w1,?_,?_⟩
 ·simp [OpD.cells]
 ·simp [DataW.weights,Tryz.underlying78,DataW.weightsEach]
 ·simp [DataW.weights,Tryz.underlying78,DataW.weightsEach]
theorem weights_in {H:Type} {P:Program} {d1 d2:DataW H} {t1 t2:TypeId} (h:(DataW.weightsEach P [t1,t2] [d1,d2]).all (· ≤ reachBytes) = true) {n:Nat} (hn:n ∈ d1.weights P t1):n ≤ 140737488351232:=by
 have:=List.all_eq_true.1 h n (by simp only [DataW.weightsEach,List.mem_append];exact .inl hn)
 have h2:n ≤ reachBytes:=by simpa using this
 exact h2
end Go.Proofs.YtdcbgfhkfmohiaaGreatDoor
