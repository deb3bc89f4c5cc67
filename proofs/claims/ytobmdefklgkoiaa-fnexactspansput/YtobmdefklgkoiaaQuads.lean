import Derived.Test.YtobmdefklgkoiaaSpanAid
import Derived.Deep.Slices
import Derived.ChangeSame
namespace Go.Proofs.Ytobmdefklgkoiaa
open Go.ChangeShapes Go.WideShapes Go.ChangeAt Go.RowKit Go.Deep

section
variable {H : Type} {enc : TypeId × Value → H} {P : Program} {w : World} {base : Nat} {spare : Nat → Bool} {held : Bool}

/-- A slice of structs of four numbers, opened at every index. -/
theorem open_quads {t e i : TypeId} {f0 f1 f2 f3 : Field} {fuel : Nat} {cs : List Value} {x : DataW H × List MemPlace} (ht : P.underlying t = some (.slice e)) (he : P.underlying e = some (.struct #[f0, f1, f2, f3])) (ce : P.cellsOf e = 4)
    (o0 : f0.offset = 0) (o1 : f1.offset = 1) (o2 : f2.offset = 2) (o3 : f3.offset = 3) (t0 : f0.type = i) (t1 : f1.type = i) (t2 : f2.type = i) (t3 : f3.type = i) (hi : P.underlying i = some (.int .i64)) (ci : P.cellsOf i = 1)
    (h : DataW.trod enc P w base spare held fuel t cs = some x) :
    cs = [.slice none 0 0] ∨ ∃ (a : Addr) (len cap : Nat), cs = [.slice (some a) len cap] ∧ len ≤ cap ∧ cap ≤ maxLen ∧ ∀ k, k < len → ∀ j, j < 4 → ∃ y : Int, w.cell? (a.add (k * 4 + j)) = some (.int .i64 y) := by
  rcases open_slice ht h with ⟨h0, _⟩ | ⟨a, len, cap, m, n, D, Pl, rfl, hb, hl, hm, hmm, _, hx⟩
  · exact .inl h0
  · refine .inr ⟨a, len, cap, rfl, hl, hm, fun k hk j hj => ?_⟩
    have hlm : len ≤ m := by rw [hmm]; split <;> omega
    obtain ⟨cs', g1, g2⟩ := hx k (by omega)
    rw [ce] at g1
    obtain ⟨_, hlen, hcell⟩ := World.cells?_some g1
    obtain ⟨xs, q, hq, hxy, _, hxl, hf⟩ := DataW.trod_struct he g2
    have ec := hcell j (by omega)
    rw [add_add] at ec
    match xs, hxl, cs', hlen with
    | [y0, y1, y2, y3], _, [v0, v1, v2, v3], _ =>
      have s0 := hf 0 f0 rfl
      have s1 := hf 1 f1 rfl
      have s2 := hf 2 f2 rfl
      have s3 := hf 3 f3 rfl
      simp only [o0, o1, o2, o3, t0, t1, t2, t3, ci] at s0 s1 s2 s3
      rcases (show j = 0 ∨ j = 1 ∨ j = 2 ∨ j = 3 by omega) with rfl | rfl | rfl | rfl
      · obtain ⟨y, e1, _⟩ := DataW.trod_int hi (by simpa using s0)
        simp at e1; subst e1; exact ⟨y, by simpa using ec⟩
      · obtain ⟨y, e1, _⟩ := DataW.trod_int hi (by simpa using s1)
        simp at e1; subst e1; exact ⟨y, by simpa using ec⟩
      · obtain ⟨y, e1, _⟩ := DataW.trod_int hi (by simpa using s2)
        simp at e1; subst e1; exact ⟨y, by simpa using ec⟩
      · obtain ⟨y, e1, _⟩ := DataW.trod_int hi (by simpa using s3)
        simp at e1; subst e1; exact ⟨y, by simpa using ec⟩
end

/-- .. as the walk wants it. -/
theorem argL_of {w : World} {o : Option Addr} {n c : Nat}
    (h : (Value.slice o n c).cells.toList = [.slice none 0 0] ∨ ∃ (a : Addr) (len cap : Nat), (Value.slice o n c).cells.toList = [.slice (some a) len cap] ∧ len ≤ cap ∧ cap ≤ maxLen ∧ ∀ k, k < len → ∀ j, j < 4 → ∃ y : Int, w.cell? (a.add (k * 4 + j)) = some (.int .i64 y)) :
    ∃ l, ArgL w o n c l := by
  rcases h with h | ⟨a, len, cap, h, hl, hm, hc⟩
  · simp [Value.cells] at h
    obtain ⟨rfl, rfl, rfl⟩ := h
    exact ⟨[], Nat.le_refl _, Nat.zero_le _, rfl, .inl rfl⟩
  · simp [Value.cells] at h
    obtain ⟨rfl, rfl, rfl⟩ := h
    by_cases h0 : n = 0
    · subst h0; exact ⟨[], Nat.zero_le _, hm, rfl, .inl rfl⟩
    · have hex : ∀ j, j < n * 4 → ∃ y : Int, w.cell? (a.add j) = some (.int .i64 y) := fun j hj => by
        have := hc (j / 4) (by omega) (j % 4) (Nat.mod_lt _ (by omega))
        rwa [show j / 4 * 4 + j % 4 = j by omega] at this
      obtain ⟨b, off, spot⟩ := a
      obtain ⟨y0, hy0⟩ := hex 0 (by omega)
      have hspot : spot = none := by simpa [Addr.add] using World.cell?_spot hy0
      subst hspot
      have hb := World.block_lt_of_cell? _ _ hy0
      have hadd : ∀ j, (⟨b, off, none⟩ : Addr).add j = ⟨b, off + j, none⟩ := fun j => by unfold Addr.add; split <;> simp_all
      obtain ⟨f, hf⟩ : ∃ f : Nat → Int, ∀ j, j < n * 4 → w.cell? ⟨b, off + j, none⟩ = some (.int .i64 (f j)) := by
        obtain ⟨f, hf⟩ := choose_lt hex
        exact ⟨f, fun j hj => by have := hf j hj; rwa [hadd] at this⟩
      refine ⟨(List.range (n * 4)).map f, hl, hm, by simp, .inr ⟨b, off, rfl, by simpa [Addr.add] using hb, fun j hj => ?_⟩⟩
      rw [hf j hj]
      simp [fn, hj]
end Go.Proofs.Ytobmdefklgkoiaa
