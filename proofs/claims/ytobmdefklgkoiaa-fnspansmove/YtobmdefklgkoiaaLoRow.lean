import Derived.Test.YtobmdefklgkoiaaAppendAt
import Derived.Maps.AppendAt
namespace Go.Proofs.Ytobmdefklgkoiaa
open Go.ChangeShapes Go.WideShapes Go.ChangeAt Go.RowKit
set_option linter.unusedSimpArgs false

/-- A slice that owns its looks, their numbers one behind the other. -/
def OwnK (w : World) (B : Nat) (v : Value) (n : Nat) (l : List Int) : Prop := w.ownsRow B 74 2 v n (l.map (Value.int .i64))
theorem OwnK.len {w : World} {B n : Nat} {v : Value} {l : List Int} (h : OwnK w B v n l) : l.length = n * 2 := by
  have := h.1; simpa using this
theorem OwnK.lt {w : World} {v : Value} {l : List Int} {B n : Nat} (h : OwnK w B v n l) : ∀ k, v.ownBlock = some k → B ≤ k ∧ k < w.heap.size := World.ownsRow.lt h
theorem OwnK.kept {w w' : World} {v : Value} {l : List Int} {B n : Nat} (h : OwnK w B v n l) (hb : ∀ k, v.ownBlock = some k → w'.heap[k]? = w.heap[k]?) : OwnK w' B v n l := by
  refine ⟨h.1, ?_⟩
  rcases h.2 with h | ⟨g, cap, cur, rfl, h2, h3, h4⟩
  · exact .inl h
  · exact .inr ⟨g, cap, cur, rfl, h2, (hb g rfl).trans h3, h4⟩
theorem OwnK.below {w w' : World} {v : Value} {l : List Int} {B n : Nat} (h : OwnK w B v n l) (hb : Below w.heap.size w w') : OwnK w' B v n l :=
  h.kept fun k hk => hb.block k (h.lt k hk).2
theorem OwnK.mono {w : World} {v : Value} {l : List Int} {B B' n : Nat} (h : OwnK w B v n l) (hB : B' ≤ B) : OwnK w B' v n l := by
  refine ⟨h.1, ?_⟩
  rcases h.2 with h | ⟨g, cap, cur, h1, h2, h3⟩
  · exact .inl h
  · exact .inr ⟨g, cap, cur, h1, Nat.le_trans hB h2, h3⟩
theorem OwnK.nil (w : World) (B : Nat) : OwnK w B (.slice none 0 0) 0 [] := World.ownsRow_nil w B _ 2
theorem OwnK.forms {w : World} {v : Value} {l : List Int} {B n : Nat} (h : OwnK w B v n l) :
    (v = .slice none 0 0 ∧ n = 0) ∨ ∃ g cap, v = .slice (some ⟨g, 0, none⟩) n cap ∧ B ≤ g ∧ g < w.heap.size ∧ n ≤ cap ∧ cap ≤ maxLen := by
  rcases h.2 with ⟨h1, h2⟩ | ⟨g, cap, cur, h1, h2, h3, h4, h5, h6, h7⟩
  · exact .inl ⟨h1, h2⟩
  · exact .inr ⟨g, cap, h1, h2, (Array.getElem?_eq_some_iff.1 h3).1, h4, h5⟩
theorem OwnK.cell {w : World} {g n cap : Nat} {l : List Int} {B : Nat} (h : OwnK w B (.slice (some ⟨g, 0, none⟩) n cap) n l) (j : Nat) (hj : j < n * 2) : w.cell? ⟨g, j, none⟩ = some (.int .i64 (fn l j)) := by
  have e := h.len
  have := World.ownsRow.cellAt h j (by omega)
  rw [this]
  simp [fn, List.getD, show j < l.length by omega]
theorem OwnK.frozen {w : World} {g n cap : Nat} {l : List Int} {B : Nat} (h : OwnK w B (.slice (some ⟨g, 0, none⟩) n cap) n l) (j : Nat) : w.frozen? ⟨g, j, none⟩ = false :=
  World.ownsRow.frozenAt h j
theorem OwnK.stored {w : World} {g n cap : Nat} {l : List Int} {B : Nat} (h : OwnK w B (.slice (some ⟨g, 0, none⟩) n cap) n l) (j : Nat) (x : Int) :
    OwnK (w.setCell ⟨g, j, none⟩ (.int .i64 x)) B (.slice (some ⟨g, 0, none⟩) n cap) n (l.set j x) := by
  have := (World.ownsRow.stored h j (.int .i64 x)).1
  unfold OwnK
  rw [List.map_set]
  exact this

theorem OwnK.form1 {w : World} {v : Value} {l : List Int} {B n : Nat} (h : OwnK w B v (n + 1) l) : ∃ g cap, v = .slice (some ⟨g, 0, none⟩) (n + 1) cap := by
  rcases h.forms with ⟨_, e⟩ | ⟨g, cap, e, _⟩
  · omega
  · exact ⟨g, cap, e⟩

theorem infoLo : (Try.prog.info? 74).map (fun i => (i.size, i.bytes)) = some (2, 16) := by kernel_rfl
theorem infoLoz : ((Try.prog.info? 74).bind (fun i => i.zero)).map (fun z => z.cells.size) = some 2 := by kernel_rfl

/-- 'out = append(out, Run{..})'. -/
theorem own_appendLo {ops : Array Oper} {rest : List Oper} {o : Oper} {a : Act} {Q : Exit → Act → World → Prop} {wr : World} {T : TypeId} {v : Value} {l : List Int} {B n : Nat} {x0 x1 : Int} (s x : Operand) (hown : OwnK wr B v n l) (hl : n ≤ 1048576) (hB : B ≤ wr.heap.size)
    (hgd : o.guard = none) (ho : o.op = .call { callee := .builtin .append, args := #[s, x], argTypes := #[63, 63] }) (hs : a.eval s = v) 
    (ad : Nat) (hx : a.eval x = .slice (some ⟨ad, 0, none⟩) 1 1) (had : ad = wr.heap.size)
    (h : ∀ v' w', OwnK w' B v' (n + 1) (l ++ [x0, x1]) → wr.grownBy w' v.ownBlock → wpList Try.prog ops Q rest (a.put o.dst v') w') :
    wpList Try.prog ops Q (o :: rest) a (wr.alloc (.cells #[.int .i64 x0, .int .i64 x1] T)) := by
  subst had
  obtain ⟨i0, hi, hz1, hz2⟩ : ∃ i, Try.prog.info? 74 = some i ∧ i.size = 2 ∧ i.bytes = 16 := by
    have := infoLo
    cases hh : Try.prog.info? 74 with
    | none => rw [hh] at this; cases this
    | some i => rw [hh] at this; simp at this; exact ⟨i, rfl, this⟩
  obtain ⟨z, hz0, hzc⟩ : ∃ z, i0.zero = some z ∧ z.cells.size = 2 := by
    have := infoLoz
    rw [hi] at this
    cases hh : i0.zero with
    | none => simp [hh] at this
    | some z => simp [hh] at this; exact ⟨z, rfl, this⟩
  refine wpList_append_own_at _ hgd s x 63 ho B 74 i0 z 2 16 Try.underlying63 hi hz0 hz1 hz2 hzc (by decide) v n (l.map (Value.int .i64)) hs (World.ownsRow.alloc hown _) ⟨wr.heap.size, 0, none⟩ 1 1 [.int .i64 x0, .int .i64 x1] hx rfl ?_ ?_ ?_ ?_ ?_ ?_
  · intro j u hj
    match j, hj with
    | 0, hj => simp at hj; subst hj; simp [Addr.add]
    | 1, hj => simp at hj; subst hj; simp [Addr.add]
  · intro u hu; simp at hu; rcases hu with rfl | rfl <;> rfl
  · unfold maxLen; omega
  · omega
  · simp; omega
  · intro v' w' h1 h2 _ _
    refine h v' w' ?_ ?_
    · unfold OwnK; rw [List.map_append]; exact h1
    · refine ⟨h2.os, h2.tape, h2.output, ?_, fun k hk hne => ?_⟩
      · have := h2.size; simp at this; omega
      · rw [h2.block k (by simp; omega) hne]; exact Below.heap_alloc wr _ k hk
end Go.Proofs.Ytobmdefklgkoiaa
