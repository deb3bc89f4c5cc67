import Derived.Test.YtgjhhfmhaalcnaaGlyRow
namespace Go.Proofs.Ytgjhhfmhaalcnaa
open Go.ChangeShapes Go.WideShapes Go.ChangeAt Go.RowKit
set_option linter.unusedSimpArgs false

/-- 'append(out, more...)', glyphs. -/
theorem own_appendAllG {ops : Array Oper} {rest : List Oper} {o : Oper} {a : Act} {Q : Exit → Act → World → Prop} {wr : World} {v : Value} {l m : List Int} {B n b k c : Nat} (s x : Operand) (hown : OwnG wr B v n l) (hk : m.length = k * 5) (hl : n + k ≤ 1048576) (hB : B ≤ wr.heap.size)
    (hat : ∀ j, j < k * 5 → wr.cell? ⟨b, j, none⟩ = some (.int .i64 (fn m j)))
    (hgd : o.guard = none) (ho : o.op = .call { callee := .builtin .append, args := #[s, x], argTypes := #[23, 23] }) (hs : a.eval s = v)
    (hx : a.eval x = .slice (some ⟨b, 0, none⟩) k c)
    (h : ∀ v' w', OwnG w' B v' (n + k) (l ++ m) → wr.grownBy w' v.ownBlock → wpList Try.prog ops Q rest (a.put o.dst v') w') :
    wpList Try.prog ops Q (o :: rest) a wr := by
  obtain ⟨i0, hi, hz1, hz2⟩ : ∃ i, Try.prog.info? 31 = some i ∧ i.size = 5 ∧ i.bytes = 40 := by
    have := infoG
    cases hh : Try.prog.info? 31 with
    | none => rw [hh] at this; cases this
    | some i => rw [hh] at this; simp at this; exact ⟨i, rfl, this⟩
  obtain ⟨z, hz0, hzc⟩ : ∃ z, i0.zero = some z ∧ z.cells.size = 5 := by
    have := infoGz
    rw [hi] at this
    cases hh : i0.zero with
    | none => simp [hh] at this
    | some z => simp [hh] at this; exact ⟨z, rfl, this⟩
  refine wpList_append_own_at _ hgd s x 23 ho B 31 i0 z 5 40 Try.underlying23 hi hz0 hz1 hz2 hzc (by decide) v n (l.map (Value.int .i64)) hs hown ⟨b, 0, none⟩ k c (m.map (Value.int .i64)) hx (by simp [hk]) ?_ ?_ ?_ ?_ ?_ ?_
  · intro j u hj
    rw [List.getElem?_map] at hj
    cases hg : m[j]? with
    | none => rw [hg] at hj; cases hj
    | some y =>
      rw [hg] at hj
      simp at hj
      have hjm : j < m.length := by
        rcases Nat.lt_or_ge j m.length with h | h
        · exact h
        · rw [List.getElem?_eq_none h] at hg; cases hg
      have := hat j (by omega)
      have hadd : (⟨b, 0, none⟩ : Addr).add j = ⟨b, j, none⟩ := by unfold Addr.add; split <;> simp_all
      rw [hadd, this, ← hj]
      rw [List.getElem?_eq_getElem hjm] at hg
      simp at hg
      rw [fn_get hjm, hg]
  · intro u hu; simp at hu; obtain ⟨y, _, rfl⟩ := hu; rfl
  · unfold maxLen; omega
  · omega
  · omega
  · intro v' w' h1 h2 _ _
    refine h v' w' ?_ h2
    unfold OwnG; rw [List.map_append]; exact h1
theorem own_emptyG (w : World) (B : Nat) (T : TypeId) (h : B ≤ w.heap.size) (hT : T = 31) : OwnG (w.alloc (.cells #[] T)) B (.slice (some ⟨w.heap.size, 0, none⟩) 0 0) 0 [] := by
  subst hT
  exact World.ownsRow_made w #[] 0 h (by unfold maxLen; omega) (by simp)
end Go.Proofs.Ytgjhhfmhaalcnaa
