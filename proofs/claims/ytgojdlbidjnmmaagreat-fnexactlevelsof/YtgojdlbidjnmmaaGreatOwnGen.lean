import Derived.Test.YtgojdlbidjnmmaaGreatMem
import Derived.Maps.AppendAt
namespace Go.Proofs.YtgojdlbidjnmmaaGreat
open Go.ChangeShapes Go.WideShapes Go.ChangeAt Go.RowKit
set_option linter.unusedSimpArgs false

/-- A slice that owns its elements, k cells each, T their type. -/
def OwnV (T : TypeId) (k : Nat) (w : World) (B : Nat) (v : Value) (n : Nat) (xs : List Value) : Prop := w.ownsRow B T k v n xs
section
variable {T : TypeId} {k : Nat} {w w' : World} {B n : Nat} {v u : Value} {xs : List Value}
theorem OwnV.len (h : OwnV T k w B v n xs) : xs.length = n * k := h.1
theorem OwnV.lt (h : OwnV T k w B v n xs) : ∀ b, v.ownBlock = some b → B ≤ b ∧ b < w.heap.size := World.ownsRow.lt h
theorem OwnV.kept (h : OwnV T k w B v n xs) (hb : ∀ b, v.ownBlock = some b → w'.heap[b]? = w.heap[b]?) : OwnV T k w' B v n xs := by
  refine ⟨h.1, ?_⟩
  rcases h.2 with h | ⟨g, cap, cur, rfl, h2, h3, h4⟩
  · exact .inl h
  · exact .inr ⟨g, cap, cur, rfl, h2, (hb g rfl).trans h3, h4⟩
theorem OwnV.below (h : OwnV T k w B v n xs) (hb : Below w.heap.size w w') : OwnV T k w' B v n xs :=
  h.kept fun b hk => hb.block b (h.lt b hk).2
theorem OwnV.mono {B' : Nat} (h : OwnV T k w B v n xs) (hB : B' ≤ B) : OwnV T k w B' v n xs := by
  refine ⟨h.1, ?_⟩
  rcases h.2 with h | ⟨g, cap, cur, h1, h2, h3⟩
  · exact .inl h
  · exact .inr ⟨g, cap, cur, h1, Nat.le_trans hB h2, h3⟩
theorem OwnV.nil (T : TypeId) (k : Nat) (w : World) (B : Nat) : OwnV T k w B (.slice none 0 0) 0 [] := World.ownsRow_nil w B _ k
theorem OwnV.empty (T T' : TypeId) (k : Nat) (w : World) (B : Nat) (h : B ≤ w.heap.size) (hT : T' = T) : OwnV T k (w.alloc (.cells #[] T')) B (.slice (some ⟨w.heap.size, 0, none⟩) 0 0) 0 [] := by
  subst hT
  exact World.ownsRow_made w #[] 0 h (by unfold maxLen; omega) (by simp)
theorem OwnV.lit (T T' : TypeId) (k : Nat) (w : World) (B n : Nat) (cs : Array Value) (h : B ≤ w.heap.size) (hm : n ≤ maxLen) (hs : cs.size = n * k) (hT : T' = T) : OwnV T k (w.alloc (.cells cs T')) B (.slice (some ⟨w.heap.size, 0, none⟩) n n) n cs.toList := by
  subst hT
  exact World.ownsRow_lit w cs n h hm hs
theorem OwnV.forms (h : OwnV T k w B v n xs) :
    (v = .slice none 0 0 ∧ n = 0) ∨ ∃ g cap, v = .slice (some ⟨g, 0, none⟩) n cap ∧ B ≤ g ∧ g < w.heap.size ∧ n ≤ cap ∧ cap ≤ maxLen := by
  rcases h.2 with ⟨h1, h2⟩ | ⟨g, cap, cur, h1, h2, h3, h4, h5, h6, h7⟩
  · exact .inl ⟨h1, h2⟩
  · exact .inr ⟨g, cap, h1, h2, (Array.getElem?_eq_some_iff.1 h3).1, h4, h5⟩
theorem OwnV.slc (h : OwnV T k w B v n xs) : ∃ a cap, v = .slice a n cap := by
  rcases h.forms with ⟨rfl, rfl⟩ | ⟨g, cap, rfl, _⟩
  · exact ⟨_, _, rfl⟩
  · exact ⟨_, _, rfl⟩
theorem OwnV.form1 (h : OwnV T k w B v n xs) (hn : 0 < n) : ∃ g cap, v = .slice (some ⟨g, 0, none⟩) n cap ∧ B ≤ g ∧ g < w.heap.size ∧ n ≤ cap ∧ cap ≤ maxLen := by
  rcases h.forms with ⟨_, e⟩ | h
  · omega
  · exact h
theorem OwnV.cell {g cap : Nat} (h : OwnV T k w B (.slice (some ⟨g, 0, none⟩) n cap) n xs) (j : Nat) (hj : j < n * k) : w.cell? ⟨g, j, none⟩ = xs[j]? :=
  World.ownsRow.cellAt h j hj
theorem OwnV.frozen {g cap : Nat} (h : OwnV T k w B (.slice (some ⟨g, 0, none⟩) n cap) n xs) (j : Nat) : w.frozen? ⟨g, j, none⟩ = false :=
  World.ownsRow.frozenAt h j
theorem OwnV.stored {g cap : Nat} (h : OwnV T k w B (.slice (some ⟨g, 0, none⟩) n cap) n xs) (j : Nat) (x : Value) : OwnV T k (w.setCell ⟨g, j, none⟩ x) B (.slice (some ⟨g, 0, none⟩) n cap) n (xs.set j x) :=
  (World.ownsRow.stored h j x).1
theorem OwnV.head {g cap : Nat} (h : OwnV T k w B (.slice (some ⟨g, 0, none⟩) n cap) n xs) (m : Nat) (hm : m ≤ n) : OwnV T k w B (.slice (some ⟨g, 0, none⟩) m cap) m (xs.take (m * k)) := by
  have e := h.len
  have hmk : m * k ≤ n * k := Nat.mul_le_mul_right k hm
  refine ⟨by rw [List.length_take]; omega, ?_⟩
  rcases h.2 with ⟨h1, _⟩ | ⟨g', cap', cur, h1, h2, h3, h4, h5, h6, h7⟩
  · cases h1
  · simp only [Value.slice.injEq, Option.some.injEq, Addr.mk.injEq] at h1
    obtain ⟨⟨rfl, _⟩, _, rfl⟩ := h1
    refine .inr ⟨g, cap, cur, rfl, h2, h3, by omega, h5, h6, ?_⟩
    rw [← h7, List.take_take]
    congr 1; omega
theorem OwnV.drewN (h : OwnV T k w B v n xs) (m : Nat) : OwnV T k (w.drewN m) B v n xs := h
theorem OwnV.alloc (h : OwnV T k w B v n xs) (o : Obj) : OwnV T k (w.alloc o) B v n xs := World.ownsRow.alloc h o
theorem OwnV.setOther {b j : Nat} {x : Value} (h : OwnV T k w B v n xs) (hne : v.ownBlock ≠ some b) : OwnV T k (w.setCell ⟨b, j, none⟩ x) B v n xs :=
  h.kept fun c hc => heap_setCell_other w ⟨b, j, none⟩ c x (fun e => hne (by rw [hc, e]))
end

/-- What is known of a type of k cells. -/
def RowT (T : TypeId) (k b : Nat) : Prop := (Tryz.prog.info? T).map (fun i => (i.size, i.bytes)) = some (k, b) ∧ ((Tryz.prog.info? T).bind (fun i => i.zero)).map (fun z => z.cells.size) = some k

/-- 'out = append(out, x)': the element has been laid in a block of its own first. -/
theorem own_appendV {ops : Array Oper} {rest : List Oper} {o : Oper} {a : Act} {Q : Exit → Act → World → Prop} {wr : World} {T TS T' : TypeId} {k b : Nat} {v : Value} {xs : List Value} {B n : Nat} {cs : Array Value} {H : Nat} (s x : Operand) (hH : wr.heap.size = H) (hT : RowT T k b) (hTS : Tryz.prog.underlying TS = some (.slice T)) (hown : OwnV T k wr B v n xs) (hl : n ≤ 1048576) (hB : B ≤ wr.heap.size) (hk0 : 0 < k) (hb : b ≤ 1024)
    (hcs : cs.size = k) (hone : ∀ u ∈ cs.toList, u.oneCell' = true)
    (hgd : o.guard = none) (ho : o.op = .call { callee := .builtin .append, args := #[s, x], argTypes := #[TS, TS] }) (hs : a.eval s = v)
    (hx : a.eval x = .slice (some ⟨H, 0, none⟩) 1 1)
    (h : ∀ v' w', OwnV T k w' B v' (n + 1) (xs ++ cs.toList) → wr.grownBy w' v.ownBlock → (v'.ownBlock = v.ownBlock ∨ v'.ownBlock = some (wr.heap.size + 1)) → wpList Tryz.prog ops Q rest (a.put o.dst v') w') :
    wpList Tryz.prog ops Q (o :: rest) a (wr.alloc (.cells cs T')) := by
  subst hH
  obtain ⟨i0, hi, hz1, hz2⟩ : ∃ i, Tryz.prog.info? T = some i ∧ i.size = k ∧ i.bytes = b := by
    have := hT.1
    cases hh : Tryz.prog.info? T with
    | none => rw [hh] at this; cases this
    | some i => rw [hh] at this; simp at this; exact ⟨i, rfl, this⟩
  obtain ⟨z, hz0, hzc⟩ : ∃ z, i0.zero = some z ∧ z.cells.size = k := by
    have := hT.2
    rw [hi] at this
    cases hh : i0.zero with
    | none => simp [hh] at this
    | some z => simp [hh] at this; exact ⟨z, rfl, this⟩
  refine wpList_append_own_at _ hgd s x TS ho B T i0 z k b hTS hi hz0 hz1 hz2 hzc (by omega) v n xs hs (World.ownsRow.alloc hown _) ⟨wr.heap.size, 0, none⟩ 1 1 cs.toList hx (by simp [hcs]) ?_ hone ?_ ?_ ?_ ?_
  · intro j u hj
    have hadd : (⟨wr.heap.size, 0, none⟩ : Addr).add j = ⟨wr.heap.size, j, none⟩ := by unfold Addr.add; split <;> simp_all
    rw [hadd, cell_of_row _ wr.heap.size j cs T' (0, 0) (heap_alloc_new wr _)]
    simpa using hj
  · unfold maxLen; omega
  · have : (n + 1) * b ≤ 1048577 * 1024 := Nat.mul_le_mul (by omega) hb
    omega
  · simp; omega
  · intro v' w' h1 h2 _ h3
    refine h v' w' h1 ?_ (by simpa using h3)
    refine ⟨h2.os, h2.tape, h2.output, ?_, fun c hc hne => ?_⟩
    · have := h2.size; simp at this; omega
    · rw [h2.block c (by simp; omega) hne]; exact Below.heap_alloc wr _ c hc
end Go.Proofs.YtgojdlbidjnmmaaGreat
