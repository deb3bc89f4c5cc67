import Derived.Test.YteefeciiaekdlaaAppendAt
namespace Go.Proofs.Yteefeciiaekdlaa
open Go.ChangeShapes Go.WideShapes Go.ChangeAt Go.RowKit
set_option linter.unusedSimpArgs false

/-- A slice that owns pairs of numbers, one behind the other; T their type. -/
def OwnP (T : TypeId) (w : World) (B : Nat) (v : Value) (n : Nat) (l : List Int) : Prop := w.ownsRow B T 2 v n (l.map (Value.int .i64))
theorem OwnP.len {T : TypeId} {w : World} {B n : Nat} {v : Value} {l : List Int} (h : OwnP T w B v n l) : l.length = n * 2 := by
  have := h.1; simpa using this
theorem OwnP.lt {T : TypeId} {w : World} {v : Value} {l : List Int} {B n : Nat} (h : OwnP T w B v n l) : ∀ k, v.ownBlock = some k → B ≤ k ∧ k < w.heap.size := World.ownsRow.lt h
theorem OwnP.kept {T : TypeId} {w w' : World} {v : Value} {l : List Int} {B n : Nat} (h : OwnP T w B v n l) (hb : ∀ k, v.ownBlock = some k → w'.heap[k]? = w.heap[k]?) : OwnP T w' B v n l := by
  refine ⟨h.1, ?_⟩
  rcases h.2 with h | ⟨g, cap, cur, rfl, h2, h3, h4⟩
  · exact .inl h
  · exact .inr ⟨g, cap, cur, rfl, h2, (hb g rfl).trans h3, h4⟩
theorem OwnP.below {T : TypeId} {w w' : World} {v : Value} {l : List Int} {B n : Nat} (h : OwnP T w B v n l) (hb : Below w.heap.size w w') : OwnP T w' B v n l :=
  h.kept fun k hk => hb.block k (h.lt k hk).2
theorem OwnP.nil (T : TypeId) (w : World) (B : Nat) : OwnP T w B (.slice none 0 0) 0 [] := World.ownsRow_nil w B _ 2
theorem OwnP.empty (T : TypeId) (w : World) (B : Nat) (h : B ≤ w.heap.size) : OwnP T (w.alloc (.cells #[] T)) B (.slice (some ⟨w.heap.size, 0, none⟩) 0 0) 0 [] :=
  World.ownsRow_made w #[] 0 h (by unfold maxLen; omega) (by simp)
theorem OwnP.forms {T : TypeId} {w : World} {v : Value} {l : List Int} {B n : Nat} (h : OwnP T w B v n l) :
    (v = .slice none 0 0 ∧ n = 0) ∨ ∃ g cap, v = .slice (some ⟨g, 0, none⟩) n cap ∧ B ≤ g ∧ g < w.heap.size ∧ n ≤ cap ∧ cap ≤ maxLen := by
  rcases h.2 with ⟨h1, h2⟩ | ⟨g, cap, cur, h1, h2, h3, h4, h5, h6, h7⟩
  · exact .inl ⟨h1, h2⟩
  · exact .inr ⟨g, cap, h1, h2, (Array.getElem?_eq_some_iff.1 h3).1, h4, h5⟩
theorem OwnP.slc {T : TypeId} {w : World} {v : Value} {l : List Int} {B n : Nat} (h : OwnP T w B v n l) : ∃ a cap, v = .slice a n cap := by
  rcases h.forms with ⟨rfl, rfl⟩ | ⟨g, cap, rfl, _⟩
  · exact ⟨_, _, rfl⟩
  · exact ⟨_, _, rfl⟩
theorem OwnP.cell {T : TypeId} {w : World} {g n cap : Nat} {l : List Int} {B : Nat} (h : OwnP T w B (.slice (some ⟨g, 0, none⟩) n cap) n l) (j : Nat) (hj : j < n * 2) : w.cell? ⟨g, j, none⟩ = some (.int .i64 (fn l j)) := by
  have e := h.len
  have := World.ownsRow.cellAt h j (by omega)
  rw [this]
  simp [fn, List.getD, show j < l.length by omega]
/-- The first ones of a row. -/
theorem OwnP.head {T : TypeId} {w : World} {g n cap : Nat} {l : List Int} {B : Nat} (h : OwnP T w B (.slice (some ⟨g, 0, none⟩) n cap) n l) (k : Nat) (hk : k ≤ n) : OwnP T w B (.slice (some ⟨g, 0, none⟩) k cap) k (l.take (k * 2)) := by
  have e := h.len
  refine ⟨by simp; omega, ?_⟩
  rcases h.2 with ⟨h1, _⟩ | ⟨g', cap', cur, h1, h2, h3, h4, h5, h6, h7⟩
  · cases h1
  · simp only [Value.slice.injEq, Option.some.injEq, Addr.mk.injEq] at h1
    obtain ⟨⟨rfl, _⟩, _, rfl⟩ := h1
    refine .inr ⟨g, cap, cur, rfl, h2, h3, by omega, h5, h6, ?_⟩
    rw [List.map_take, ← h7, List.take_take]
    congr 1; omega
theorem OwnP.apart {T : TypeId} {w w' : World} {v u : Value} {l : List Int} {B n : Nat} (h : OwnP T w B v n l) (hg : w.grownBy w' u.ownBlock) (ha : Apart u v) : OwnP T w' B v n l :=
  h.kept fun k hk => hg.block k (h.lt k hk).2 (fun e => ha k e.symm hk)
theorem Apart.nextP {T : TypeId} {w : World} {v v' u : Value} {B n : Nat} {l : List Int} (h : Apart v u) (hu : OwnP T w B u n l) (h3 : v'.ownBlock = v.ownBlock ∨ v'.ownBlock = some (w.heap.size + 1)) : Apart v' u := by
  intro k hk e
  rcases h3 with h3 | h3
  · exact h k (by rw [← h3]; exact hk) e
  · rw [hk] at h3; have := (hu.lt k e).2; simp at h3; omega

theorem Apart.nextP2 {w : World} {v v' u : Value} {B : Nat} {l : List Int} (h : Apart v u) (hu : OwnI w B u l) (h3 : v'.ownBlock = v.ownBlock ∨ v'.ownBlock = some (w.heap.size + 1)) : Apart v' u := h.next hu h3

/-- What is known of a type of two numbers. -/
def PairT (T : TypeId) : Prop := (Try.prog.info? T).map (fun i => (i.size, i.bytes)) = some (2, 16) ∧ ((Try.prog.info? T).bind (fun i => i.zero)).map (fun z => z.cells.size) = some 2

/-- 'out = append(out, pair)'. -/
theorem own_appendP {ops : Array Oper} {rest : List Oper} {o : Oper} {a : Act} {Q : Exit → Act → World → Prop} {wr : World} {T TS T' : TypeId} {v : Value} {l : List Int} {B n : Nat} {x0 x1 : Int} (s x : Operand) (hT : PairT T) (hTS : Try.prog.underlying TS = some (.slice T)) (hown : OwnP T wr B v n l) (hl : n ≤ 1048576) (hB : B ≤ wr.heap.size)
    (hgd : o.guard = none) (ho : o.op = .call { callee := .builtin .append, args := #[s, x], argTypes := #[TS, TS] }) (hs : a.eval s = v) 
    (hx : a.eval x = .slice (some ⟨wr.heap.size, 0, none⟩) 1 1)
    (h : ∀ v' w', OwnP T w' B v' (n + 1) (l ++ [x0, x1]) → wr.grownBy w' v.ownBlock → (v'.ownBlock = v.ownBlock ∨ v'.ownBlock = some (wr.heap.size + 1)) → wpList Try.prog ops Q rest (a.put o.dst v') w') :
    wpList Try.prog ops Q (o :: rest) a (wr.alloc (.cells #[.int .i64 x0, .int .i64 x1] T')) := by
  obtain ⟨i0, hi, hz1, hz2⟩ : ∃ i, Try.prog.info? T = some i ∧ i.size = 2 ∧ i.bytes = 16 := by
    have := hT.1
    cases hh : Try.prog.info? T with
    | none => rw [hh] at this; cases this
    | some i => rw [hh] at this; simp at this; exact ⟨i, rfl, this⟩
  obtain ⟨z, hz0, hzc⟩ : ∃ z, i0.zero = some z ∧ z.cells.size = 2 := by
    have := hT.2
    rw [hi] at this
    cases hh : i0.zero with
    | none => simp [hh] at this
    | some z => simp [hh] at this; exact ⟨z, rfl, this⟩
  refine wpList_append_own_at _ hgd s x TS ho B T i0 z 2 16 hTS hi hz0 hz1 hz2 hzc (by decide) v n (l.map (Value.int .i64)) hs (World.ownsRow.alloc hown _) ⟨wr.heap.size, 0, none⟩ 1 1 [.int .i64 x0, .int .i64 x1] hx rfl ?_ ?_ ?_ ?_ ?_ ?_
  · intro j u hj
    match j, hj with
    | 0, hj => simp at hj; subst hj; simp [Addr.add]
    | 1, hj => simp at hj; subst hj; simp [Addr.add]
  · intro u hu; simp at hu; rcases hu with rfl | rfl <;> rfl
  · unfold maxLen; omega
  · omega
  · simp; omega
  · intro v' w' h1 h2 _ h3
    refine h v' w' ?_ ?_ (by simpa using h3)
    · unfold OwnP; rw [List.map_append]; exact h1
    · refine ⟨h2.os, h2.tape, h2.output, ?_, fun k hk hne => ?_⟩
      · have := h2.size; simp at this; omega
      · rw [h2.block k (by simp; omega) hne]; exact Below.heap_alloc wr _ k hk
end Go.Proofs.Yteefeciiaekdlaa
