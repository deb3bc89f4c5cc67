import Derived.Test.YtobmdefklgkoiaaLoRow
import Derived.Deep.RegionLaw
namespace Go.Proofs.Ytobmdefklgkoiaa
open Go.ChangeShapes Go.WideShapes Go.ChangeAt Go.RowKit
set_option linter.unusedSimpArgs false

theorem infoLo4 : ∃ i z, Try.prog.info? 74 = some i ∧ i.size = 2 ∧ i.bytes = 16 ∧ i.zero = some z ∧ z.cells.size = 2 := by
  obtain ⟨i0, hi, hz1, hz2⟩ : ∃ i, Try.prog.info? 74 = some i ∧ i.size = 2 ∧ i.bytes = 16 := by
    have := infoLo
    cases hh : Try.prog.info? 74 with
    | none => rw [hh] at this; cases this
    | some i => rw [hh] at this; simp at this; exact ⟨i, rfl, this⟩
  obtain ⟨z, hz0, hzc⟩ : ∃ z, i0.zero = some z ∧ z.cells.size = 2 := by
    have := infoLoz
    rw [hi] at this
    cases hh : i0.zero with
    | none => simp [hh] at this
    | some z => simp [hh] at this; exact ⟨z, rfl, this⟩
  exact ⟨i0, z, hi, hz1, hz2, hz0, hzc⟩
theorem cells_of_fn {w : World} {b off k : Nat} {m : List Int} (hk : m.length = k) (hat : ∀ j, j < k → w.cell? ⟨b, off + j, none⟩ = some (.int .i64 (fn m j))) : ∀ (j : Nat) (u : Value), (m.map (Value.int .i64))[j]? = some u → w.cell? ((⟨b, off, none⟩ : Addr).add j) = some u := by
  intro j u hj
  rw [List.getElem?_map] at hj
  cases hg : m[j]? with
  | none => rw [hg] at hj; cases hj
  | some y =>
    rw [hg] at hj
    simp at hj
    have hjm : j < m.length := by
      rcases Nat.lt_or_ge j m.length with h | h
      · exact h
      · rw [List.getElem?_eq_none h] at hg; cases hg
    have := hat j (by omega)
    have hadd : (⟨b, off, none⟩ : Addr).add j = ⟨b, off + j, none⟩ := by unfold Addr.add; split <;> simp_all
    rw [hadd, this, ← hj]
    rw [List.getElem?_eq_getElem hjm] at hg
    simp at hg
    rw [fn_get hjm, hg]

/-- 'append(out, more...)' of looks. -/
theorem own_allK {ops : Array Oper} {rest : List Oper} {o : Oper} {a : Act} {Q : Exit → Act → World → Prop} {wr : World} {v : Value} {l m : List Int} {B n b off k c : Nat} (s x : Operand) (hown : OwnK wr B v n l) (hk : m.length = k * 2) (hl : n + k ≤ 1048576) (hB : B ≤ wr.heap.size) (hat : ∀ j, j < k * 2 → wr.cell? ⟨b, off + j, none⟩ = some (.int .i64 (fn m j)))
    (hgd : o.guard = none) (ho : o.op = .call { callee := .builtin .append, args := #[s, x], argTypes := #[63, 63] }) (hs : a.eval s = v)
    (hx : a.eval x = .slice (some ⟨b, off, none⟩) k c)
    (h : ∀ v' w', OwnK w' B v' (n + k) (l ++ m) → wr.grownBy w' v.ownBlock → wpList Try.prog ops Q rest (a.put o.dst v') w') :
    wpList Try.prog ops Q (o :: rest) a wr := by
  obtain ⟨i0, z, hi, hz1, hz2, hz0, hzc⟩ := infoLo4
  refine wpList_append_own _ hgd s x 63 ho B 74 i0 z 2 16 Try.underlying63 hi hz0 hz1 hz2 hzc (by decide) v n (l.map (Value.int .i64)) hs hown ⟨b, off, none⟩ k c (m.map (Value.int .i64)) hx (by simp [hk]) (cells_of_fn hk hat) ?_ ?_ ?_ ?_ ?_
  · intro u hu; simp at hu; obtain ⟨y, _, rfl⟩ := hu; rfl
  · unfold maxLen; omega
  · omega
  · omega
  · intro v' w' h1 h2 _
    refine h v' w' ?_ h2
    unfold OwnK; rw [List.map_append]; exact h1
/-- .. as a step of a region that draws its order. -/
theorem step_allK {ops : Array Oper} {o : Oper} {a : Act} {K : Act → World → Prop} {Q : Exit → Act → World → Prop} {E : Prop} {W : World} {v : Value} {l m : List Int} {B n b off k c : Nat} (s x : Operand) (hown : OwnK W B v n l) (hk : m.length = k * 2) (hl : n + k ≤ 1048576) (hB : B ≤ W.heap.size) (hat : ∀ j, j < k * 2 → W.cell? ⟨b, off + j, none⟩ = some (.int .i64 (fn m j)))
    (hgd : o.guard = none) (ho : o.op = .call { callee := .builtin .append, args := #[s, x], argTypes := #[63, 63] }) (hs : a.eval s = v) (hx : a.eval x = .slice (some ⟨b, off, none⟩) k c)
    (h : ∀ v' w', OwnK w' B v' (n + k) (l ++ m) → W.grownBy w' v.ownBlock → K (a.put o.dst v') w') :
    if Region.wanted o (yielded ops a.tmps) = true then Oper.wp Try.prog o a W K Q else E := by
  have hw : Region.wanted o (yielded ops a.tmps) = true := by simp [Region.wanted, hgd]
  rw [if_pos hw]
  obtain ⟨i0, z, hi, hz1, hz2, hz0, hzc⟩ := infoLo4
  refine wp_append_own W s x 63 ho B 74 i0 z 2 16 Try.underlying63 hi hz0 hz1 hz2 hzc (by decide) v n (l.map (Value.int .i64)) hs hown ⟨b, off, none⟩ k c (m.map (Value.int .i64)) hx (by simp [hk]) (cells_of_fn hk hat) ?_ ?_ ?_ hB ?_
  · intro u hu; simp at hu; obtain ⟨y, _, rfl⟩ := hu; rfl
  · unfold maxLen; omega
  · omega
  · intro v' w' h1 h2 _
    refine h v' w' ?_ h2
    unfold OwnK; rw [List.map_append]; exact h1
end Go.Proofs.Ytobmdefklgkoiaa
