import Derived.Test.YtgjhhfmhaalcnaaGlyAid
import Derived.Deep.Slices
import Derived.ChangeSame
namespace Go.Proofs.Ytgjhhfmhaalcnaa
open Go.ChangeShapes Go.WideShapes Go.ChangeAt Go.RowKit Go.Deep

section
variable {H : Type} {enc : TypeId × Value → H} {P : Program} {w : World} {base : Nat} {spare : Nat → Bool} {held : Bool}

/-- A slice of structs of five numbers, opened at every index. -/
theorem open_fives {t e i : TypeId} {f0 f1 f2 f3 f4 : Field} {fuel : Nat} {cs : List Value} {x : DataW H × List MemPlace} (ht : P.underlying t = some (.slice e)) (he : P.underlying e = some (.struct #[f0, f1, f2, f3, f4])) (ce : P.cellsOf e = 5)
    (o0 : f0.offset = 0) (o1 : f1.offset = 1) (o2 : f2.offset = 2) (o3 : f3.offset = 3) (o4 : f4.offset = 4) (t0 : f0.type = i) (t1 : f1.type = i) (t2 : f2.type = i) (t3 : f3.type = i) (t4 : f4.type = i) (hi : P.underlying i = some (.int .i64)) (ci : P.cellsOf i = 1)
    (h : DataW.trod enc P w base spare held fuel t cs = some x) :
    cs = [.slice none 0 0] ∨ ∃ (a : Addr) (len cap : Nat), cs = [.slice (some a) len cap] ∧ len ≤ cap ∧ cap ≤ maxLen ∧ ∀ k, k < len → ∀ j, j < 5 → ∃ y : Int, w.cell? (a.add (k * 5 + j)) = some (.int .i64 y) := by
  rcases open_slice ht h with ⟨h0, _⟩ | ⟨a, len, cap, m, n, D, Pl, rfl, hb, hl, hm, hmm, _, hx⟩
  · exact .inl h0
  · refine .inr ⟨a, len, cap, rfl, hl, hm, fun k hk j hj => ?_⟩
    have hlm : len ≤ m := by rw [hmm]; split <;> omega
    obtain ⟨cs', g1, g2⟩ := hx k (by omega)
    rw [ce] at g1
    obtain ⟨_, hlen, hcell⟩ := World.cells?_some g1
    obtain ⟨xs, q, hq, hxy, _, hxl, hf⟩ := DataW.trod_struct he g2
    have ec := hcell j (by omega)
    rw [add_add] at ec
    match xs, hxl, cs', hlen with
    | [y0, y1, y2, y3, y4], _, [v0, v1, v2, v3, v4], _ =>
      have s0 := hf 0 f0 rfl
      have s1 := hf 1 f1 rfl
      have s2 := hf 2 f2 rfl
      have s3 := hf 3 f3 rfl
      have s4 := hf 4 f4 rfl
      simp only [o0, o1, o2, o3, o4, t0, t1, t2, t3, t4, ci] at s0 s1 s2 s3 s4
      rcases (show j = 0 ∨ j = 1 ∨ j = 2 ∨ j = 3 ∨ j = 4 by omega) with rfl | rfl | rfl | rfl | rfl
      · obtain ⟨y, e1, _⟩ := DataW.trod_int hi (by simpa using s0)
        simp at e1; subst e1; exact ⟨y, by simpa using ec⟩
      · obtain ⟨y, e1, _⟩ := DataW.trod_int hi (by simpa using s1)
        simp at e1; subst e1; exact ⟨y, by simpa using ec⟩
      · obtain ⟨y, e1, _⟩ := DataW.trod_int hi (by simpa using s2)
        simp at e1; subst e1; exact ⟨y, by simpa using ec⟩
      · obtain ⟨y, e1, _⟩ := DataW.trod_int hi (by simpa using s3)
        simp at e1; subst e1; exact ⟨y, by simpa using ec⟩
      · obtain ⟨y, e1, _⟩ := DataW.trod_int hi (by simpa using s4)
        simp at e1; subst e1; exact ⟨y, by simpa using ec⟩

/-- A struct of three numbers and such a slice. -/
theorem open_line {t s e i : TypeId} {f0 f1 f2 f3 : Field} {g0 g1 g2 g3 g4 : Field} {fuel : Nat} {cs : List Value} {x : DataW H × List MemPlace} (ht : P.underlying t = some (.struct #[f0, f1, f2, f3]))
    (o0 : f0.offset = 0) (o1 : f1.offset = 1) (o2 : f2.offset = 2) (o3 : f3.offset = 3) (t0 : f0.type = i) (t1 : f1.type = i) (t2 : f2.type = i) (t3 : f3.type = s) (cs4 : cs.length = 4) (cS : P.cellsOf s = 1)
    (hs : P.underlying s = some (.slice e)) (he : P.underlying e = some (.struct #[g0, g1, g2, g3, g4])) (ce : P.cellsOf e = 5)
    (p0 : g0.offset = 0) (p1 : g1.offset = 1) (p2 : g2.offset = 2) (p3 : g3.offset = 3) (p4 : g4.offset = 4) (u0 : g0.type = i) (u1 : g1.type = i) (u2 : g2.type = i) (u3 : g3.type = i) (u4 : g4.type = i) (hi : P.underlying i = some (.int .i64)) (ci : P.cellsOf i = 1)
    (h : DataW.trod enc P w base spare held fuel t cs = some x) :
    ∃ (f g d : Int) (sv : Value), cs = [.int .i64 f, .int .i64 g, .int .i64 d, sv] ∧ ([sv] = [.slice none 0 0] ∨ ∃ (a : Addr) (len cap : Nat), [sv] = [.slice (some a) len cap] ∧ len ≤ cap ∧ cap ≤ maxLen ∧ ∀ k, k < len → ∀ j, j < 5 → ∃ y : Int, w.cell? (a.add (k * 5 + j)) = some (.int .i64 y)) := by
  obtain ⟨xs, q, hq, hxy, _, hxl, hf⟩ := DataW.trod_struct ht h
  match xs, hxl, cs, cs4 with
  | [y0, y1, y2, y3], _, [v0, v1, v2, v3], _ =>
    have s0 := hf 0 f0 rfl
    have s1 := hf 1 f1 rfl
    have s2 := hf 2 f2 rfl
    have s3 := hf 3 f3 rfl
    simp only [o0, o1, o2, o3, t0, t1, t2, t3, ci, cS] at s0 s1 s2 s3
    obtain ⟨z0, e0, _⟩ := DataW.trod_int hi (by simpa using s0)
    obtain ⟨z1, e1, _⟩ := DataW.trod_int hi (by simpa using s1)
    obtain ⟨z2, e2, _⟩ := DataW.trod_int hi (by simpa using s2)
    simp at e0 e1 e2
    subst e0 e1 e2
    exact ⟨z0, z1, z2, v3, rfl, open_fives hs he ce p0 p1 p2 p3 p4 u0 u1 u2 u3 u4 hi ci (by simpa using s3)⟩
end

/-- .. as the walk wants it. -/
theorem argGL_of {w : World} {sv : Value}
    (h : [sv] = [.slice none 0 0] ∨ ∃ (a : Addr) (len cap : Nat), [sv] = [.slice (some a) len cap] ∧ len ≤ cap ∧ cap ≤ maxLen ∧ ∀ k, k < len → ∀ j, j < 5 → ∃ y : Int, w.cell? (a.add (k * 5 + j)) = some (.int .i64 y)) :
    ∃ o n c l, sv = .slice o n c ∧ ArgGL w o n c l := by
  rcases h with h | ⟨a, n, c, h, hl, hm, hc⟩
  · simp at h
    subst h
    exact ⟨_, _, _, [], rfl, Nat.le_refl _, Nat.zero_le _, rfl, .inl rfl⟩
  · simp at h
    subst h
    by_cases h0 : n = 0
    · subst h0; exact ⟨_, _, _, [], rfl, Nat.zero_le _, hm, rfl, .inl rfl⟩
    · have hex : ∀ j, j < n * 5 → ∃ y : Int, w.cell? (a.add j) = some (.int .i64 y) := fun j hj => by
        have := hc (j / 5) (by omega) (j % 5) (Nat.mod_lt _ (by omega))
        rwa [show j / 5 * 5 + j % 5 = j by omega] at this
      obtain ⟨b, off, spot⟩ := a
      obtain ⟨y0, hy0⟩ := hex 0 (by omega)
      have hspot : spot = none := by simpa [Addr.add] using World.cell?_spot hy0
      subst hspot
      have hb := World.block_lt_of_cell? _ _ hy0
      have hadd : ∀ j, (⟨b, off, none⟩ : Addr).add j = ⟨b, off + j, none⟩ := fun j => by unfold Addr.add; split <;> simp_all
      obtain ⟨f, hf⟩ : ∃ f : Nat → Int, ∀ j, j < n * 5 → w.cell? ⟨b, off + j, none⟩ = some (.int .i64 (f j)) := by
        obtain ⟨f, hf⟩ := choose_lt hex
        exact ⟨f, fun j hj => by have := hf j hj; rwa [hadd] at this⟩
      refine ⟨_, _, _, (List.range (n * 5)).map f, rfl, hl, hm, by simp, .inr ⟨b, off, rfl, by simpa [Addr.add] using hb, fun j hj => ?_⟩⟩
      rw [hf j hj]
      simp [fn, hj]
end Go.Proofs.Ytgjhhfmhaalcnaa
