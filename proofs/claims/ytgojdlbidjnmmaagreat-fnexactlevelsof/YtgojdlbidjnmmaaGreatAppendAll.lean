import Derived.Test.YtgojdlbidjnmmaaGreatAppend
namespace Go.Proofs.YtgojdlbidjnmmaaGreat
open Go.ChangeShapes Go.WideShapes Go.ChangeAt Go.RowKit
set_option linter.unusedSimpArgs false

/-- 'append(out, more...)', out a row of its own, more a row that can be read. -/
theorem own_appendAll {ops : Array Oper} {rest : List Oper} {o : Oper} {a : Act} {Q : Exit → Act → World → Prop} {wr : World} {v : Value} {l m : List Int} {B b off k c : Nat} (s x : Operand) (hown : OwnI wr B v l) (hk : m.length = k) (hl : l.length + k ≤ 1073741824) (hB : B ≤ wr.heap.size) (hat : At wr b off m)
    (hgd : o.guard = none) (ho : o.op = .call { callee := .builtin .append, args := #[s, x], argTypes := #[23, 23] }) (hs : a.eval s = v) 
    (hx : a.eval x = .slice (some ⟨b, off, none⟩) k c)
    (h : ∀ v' w', OwnI w' B v' (l ++ m) → wr.grownBy w' v.ownBlock → wpList Tryz.prog ops Q rest (a.put o.dst v') w') :
    wpList Tryz.prog ops Q (o :: rest) a wr := by
  obtain ⟨i0, hi, hz0, hz1, hz2⟩ := info_parts infoI
  refine wpList_append_own _ hgd s x 23 ho B 3 i0 (.int .i64 0) 1 8 Tryz.underlying23 hi hz0 hz1 hz2 rfl (by decide) v l.length (l.map (Value.int .i64)) hs hown ⟨b, off, none⟩ k c (m.map (Value.int .i64)) hx (by simp [hk]) ?_ ?_ ?_ ?_ ?_ ?_
  · intro j u hj
    rw [List.getElem?_map] at hj
    cases hg : m[j]? with
    | none => rw [hg] at hj; cases hj
    | some y =>
      rw [hg] at hj
      simp at hj
      have hjm : j < m.length := by rcases Nat.lt_or_ge j m.length with h | h
                                    · exact h
                                    · rw [List.getElem?_eq_none h] at hg; cases hg
      have := hat j hjm
      have hadd : (⟨b, off, none⟩ : Addr).add j = ⟨b, off + j, none⟩ := by unfold Addr.add; split <;> simp_all
      rw [hadd, this, ← hj]
      rw [List.getElem?_eq_getElem hjm] at hg
      simp at hg
      rw [fn_get hjm, hg]
  · intro u hu; simp at hu; obtain ⟨y, _, rfl⟩ := hu; rfl
  · unfold maxLen; omega
  · omega
  · omega
  · intro v' w' h1 h2 _
    refine h v' w' ?_ h2
    unfold OwnI; rw [List.length_append, List.map_append, hk]; exact h1
end Go.Proofs.YtgojdlbidjnmmaaGreat
