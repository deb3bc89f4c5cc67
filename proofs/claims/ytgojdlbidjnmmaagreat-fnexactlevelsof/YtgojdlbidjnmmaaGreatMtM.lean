import Derived.Test.YtgojdlbidjnmmaaGreatRZ
import Derived.Test.YtgojdlbidjnmmaaGreatBrkM
import Derived.Test.YtgojdlbidjnmmaaGreatMates
namespace Go.Proofs.YtgojdlbidjnmmaaGreat
open Go.ChangeShapes Go.WideShapes Go.ChangeAt Go.RowKit
set_option linter.unusedSimpArgs false
set_option linter.unusedVariables false

theorem OwnI.slicZ {w : World} {B : Nat} {v : Value} {l : List Int} (h : OwnI w B v l) : ∃ a n cap, v = .slice a n cap ∧ l.length = n := by
  rcases h.forms with ⟨rfl, rfl⟩ | ⟨g, cap, rfl, _⟩
  · exact ⟨_, _, _, rfl, rfl⟩
  · exact ⟨_, _, _, rfl, rfl⟩
theorem own_lit2 (w : World) (B : Nat) (T : TypeId) (x y : Int) (h : B ≤ w.heap.size) (hT : T = 3) : OwnI (w.alloc (.cells #[.int .i64 x, .int .i64 y] T)) B (.slice (some ⟨w.heap.size, 0, none⟩) 2 2) [x, y] := by
  subst hT
  exact ⟨by simp, .inr ⟨w.heap.size, 2, #[.int .i64 x, .int .i64 y], rfl, h, heap_alloc_new w _, Nat.le_refl _, by unfold maxLen; omega, rfl, rfl⟩⟩
/-- Pairs that were found, and what is open. -/
structure BS (w : World) (B : Nat) (v vo : Value) (zs : List (Value × List Int)) (O : List Nat) : Prop where
  rz : RZ w B v zs
  op : OwnI w B vo (natL O)
  ap : Apart v vo
  apz : ∀ q ∈ zs, Apart q.1 vo
section
variable {w w' : World} {B : Nat} {v vo v' vo' : Value} {zs : List (Value × List Int)} {O : List Nat}
theorem BS.below (h : BS w B v vo zs O) (hb : Below w.heap.size w w') : BS w' B v vo zs O := ⟨h.rz.below hb, h.op.below hb, h.ap, h.apz⟩
theorem BS.push {x : Nat} (h : BS w B v vo zs O) (ho : OwnI w' B vo' (natL (O ++ [x]))) (hg : w.grownBy w' vo.ownBlock) (hv : vo'.ownBlock = vo.ownBlock ∨ vo'.ownBlock = some (w.heap.size + 1)) : BS w' B v vo' zs (O ++ [x]) := by
  refine ⟨h.rz.kept fun b hb => ?_, ho, ?_, fun q hq => ?_⟩
  · rcases hb with hb | ⟨q, hq, hb⟩
    · exact hg.block b (h.rz.lt b hb).2 (fun e => h.ap b hb e.symm)
    · exact hg.block b ((h.rz.row q hq).lt b hb).2 (fun e => h.apz q hq b hb e.symm)
  · intro b h1 h2
    rcases hv with e | e
    · exact h.ap b h1 (by rw [← e]; exact h2)
    · rw [h2] at e; simp at e; have := (h.rz.lt b h1).2; omega
  · intro b h1 h2
    rcases hv with e | e
    · exact h.apz q hq b h1 (by rw [← e]; exact h2)
    · rw [h2] at e; simp at e; have := ((h.rz.row q hq).lt b h1).2; omega
theorem natL_take (l : List Nat) (q : Nat) : (natL l).take q = natL (l.take q) := by simp [natL, List.map_take]
theorem BS.cut {g n cap q : Nat} (h : BS w B v (.slice (some ⟨g, 0, none⟩) n cap) zs O) (hq : q ≤ n) : BS w B v (.slice (some ⟨g, 0, none⟩) q cap) zs (O.take q) :=
  ⟨h.rz, by rw [← natL_take]; exact h.op.take hq, h.ap, h.apz⟩
/-- One pair more. -/
theorem BS.into {vp : Value} {x : List Int} {zs' : List (Value × List Int)} (h : BS w B v vo zs O) (hb : Below w.heap.size w w') (hz : RZ w' B v' zs') (hv : ∀ k, v'.ownBlock = some k → w.heap.size ≤ k) (hvp : ∀ k, vp.ownBlock = some k → w.heap.size ≤ k) (hp : zs'.Perm ((vp, x) :: zs)) : BS w' B v' vo zs' O := by
  refine ⟨hz, h.op.below hb, fun k h1 h2 => ?_, fun q hq k h1 h2 => ?_⟩
  · have := hv k h1; have := (h.op.lt k h2).2; omega
  · have := hp.mem_iff.1 hq
    simp at this
    rcases this with rfl | hq2
    · have := hvp k h1; have := (h.op.lt k h2).2; omega
    · exact h.apz q hq2 k h1 h2
end
theorem stB_succ {l c : Nat → Int} {mate : Int → Int} {k : Nat} {O : List Nat} {P : List (Nat × Nat)} {m x cc : Int} (h : stB l c mate k = (O, P)) (hm : mate x = m) (hx : l k = x) (hc : c k = cc) :
    stB l c mate (k + 1) = if m = 0 ∨ cc ≠ 13 then (O, P) else if x < m then (O ++ [k], P) else shutB l m k O P (scanF l O m O.length) := by
  show stepB l c mate k (stB l c mate k).1 (stB l c mate k).2 = _
  rw [h]; subst hx; subst hc; subst hm; rfl
end Go.Proofs.YtgojdlbidjnmmaaGreat
