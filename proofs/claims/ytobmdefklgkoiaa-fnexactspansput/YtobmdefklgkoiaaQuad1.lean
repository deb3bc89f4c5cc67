import Derived.Test.YtobmdefklgkoiaaQuads
namespace Go.Proofs.Ytobmdefklgkoiaa
open Go.ChangeShapes Go.WideShapes Go.ChangeAt Go.RowKit Go.Deep

/-- A struct of four numbers. -/
theorem open_quad {H : Type} {enc : TypeId × Value → H} {P : Program} {w : World} {base : Nat} {spare : Nat → Bool} {held : Bool} {t i : TypeId} {f0 f1 f2 f3 : Field} {fuel : Nat} {cs : List Value} {x : DataW H × List MemPlace} (he : P.underlying t = some (.struct #[f0, f1, f2, f3]))
    (o0 : f0.offset = 0) (o1 : f1.offset = 1) (o2 : f2.offset = 2) (o3 : f3.offset = 3) (t0 : f0.type = i) (t1 : f1.type = i) (t2 : f2.type = i) (t3 : f3.type = i) (hi : P.underlying i = some (.int .i64)) (ci : P.cellsOf i = 1) (c4 : cs.length = 4)
    (h : DataW.trod enc P w base spare held fuel t cs = some x) :
    ∃ y0 y1 y2 y3 : Int, cs = [.int .i64 y0, .int .i64 y1, .int .i64 y2, .int .i64 y3] := by
  obtain ⟨xs, q, hq, hxy, _, hxl, hf⟩ := DataW.trod_struct he h
  match xs, hxl, cs, c4 with
  | [y0, y1, y2, y3], _, [v0, v1, v2, v3], _ =>
    have s0 := hf 0 f0 rfl
    have s1 := hf 1 f1 rfl
    have s2 := hf 2 f2 rfl
    have s3 := hf 3 f3 rfl
    simp only [o0, o1, o2, o3, t0, t1, t2, t3, ci] at s0 s1 s2 s3
    obtain ⟨z0, e0, _⟩ := DataW.trod_int hi (by simpa using s0)
    obtain ⟨z1, e1, _⟩ := DataW.trod_int hi (by simpa using s1)
    obtain ⟨z2, e2, _⟩ := DataW.trod_int hi (by simpa using s2)
    obtain ⟨z3, e3, _⟩ := DataW.trod_int hi (by simpa using s3)
    simp at e0 e1 e2 e3
    subst e0 e1 e2 e3
    exact ⟨z0, z1, z2, z3, rfl⟩
end Go.Proofs.Ytobmdefklgkoiaa
