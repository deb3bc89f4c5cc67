import Derived.Test.YtgojdlbidjnmmaaGreatRRow
namespace Go.Proofs.YtgojdlbidjnmmaaGreat
open Go.ChangeShapes Go.WideShapes Go.ChangeAt Go.RowKit
set_option linter.unusedSimpArgs false
set_option linter.unusedVariables false

/-- Pairs of a slice and a number, cell by cell. -/
def pcells : List (Value × Int) → List Value
  | [] => []
  | p :: r => [p.1, .int .i64 p.2] ++ pcells r
theorem pcells_len (P : List (Value × Int)) : (pcells P).length = P.length * 2 := by
  induction P with
  | nil => rfl
  | cons x r ih => simp only [pcells, List.length_append, ih, List.length_cons, List.length_nil]; omega
theorem pcells_app (P Q : List (Value × Int)) : pcells (P ++ Q) = pcells P ++ pcells Q := by
  induction P with
  | nil => rfl
  | cons x r ih => simp only [List.cons_append, pcells, ih, List.nil_append]
def pN (P : List (Value × Int)) (j : Nat) : Value × Int := P.getD j (.slice none 0 0, 0)
theorem pN_left {P Q : List (Value × Int)} {j : Nat} (h : j < P.length) : pN (P ++ Q) j = pN P j := by simp [pN, List.getD, List.getElem?_append_left h]
theorem pN_last (P : List (Value × Int)) (u : Value × Int) : pN (P ++ [u]) P.length = u := by simp [pN]
theorem pcells_at {P : List (Value × Int)} {j : Nat} (h : j < P.length) : (pcells P)[j * 2]? = some (pN P j).1 ∧ (pcells P)[j * 2 + 1]? = some (.int .i64 (pN P j).2) := by
  induction P generalizing j with
  | nil => simp at h
  | cons x r ih =>
    cases j with
    | zero => exact ⟨rfl, rfl⟩
    | succ j =>
      have := ih (j := j) (by simpa using h)
      rw [show (j + 1) * 2 = j * 2 + 2 by omega, show j * 2 + 2 + 1 = (j * 2 + 1) + 2 by omega]
      simp only [pcells, List.cons_append, List.nil_append, List.getElem?_cons_succ]
      exact this
/-- A slice that owns pieces: each a row of numbers and its level, none over another one. -/
structure PR (w : World) (B : Nat) (v : Value) (P : List (Value × Int)) (rows : List (List Int)) : Prop where
  len : P.length = rows.length
  own : OwnV 49 2 w B v rows.length (pcells P)
  row : ∀ j, j < rows.length → OwnI w B (pN P j).1 (rN rows j)
  apv : ∀ j, j < rows.length → Apart v (pN P j).1
  app : ∀ i j, i < j → j < rows.length → Apart (pN P i).1 (pN P j).1
section
variable {w w' : World} {B : Nat} {v : Value} {P : List (Value × Int)} {rows : List (List Int)}
theorem PR.below (h : PR w B v P rows) (hb : Below w.heap.size w w') : PR w' B v P rows :=
  ⟨h.len, h.own.below hb, fun j hj => (h.row j hj).below hb, h.apv, h.app⟩
theorem PR.kept (h : PR w B v P rows) (hb : ∀ b, (v.ownBlock = some b ∨ ∃ j, j < rows.length ∧ (pN P j).1.ownBlock = some b) → w'.heap[b]? = w.heap[b]?) : PR w' B v P rows :=
  ⟨h.len, h.own.kept (fun b hk => hb b (.inl hk)), fun j hj => (h.row j hj).kept (fun b hk => hb b (.inr ⟨j, hj, hk⟩)), h.apv, h.app⟩
theorem PR.nil (w : World) (B : Nat) : PR w B (.slice none 0 0) [] [] := ⟨rfl, OwnV.nil _ _ _ _, fun j hj => by simp at hj, fun j hj => by simp at hj, fun i j _ hj => by simp at hj⟩
theorem PR.slc (h : PR w B v P rows) : ∃ a cap, v = .slice a rows.length cap := h.own.slc
theorem PR.lt (h : PR w B v P rows) : ∀ b, v.ownBlock = some b → B ≤ b ∧ b < w.heap.size := h.own.lt
/-- One more piece. -/
theorem PR.snoc {u v' : Value} {x : Int} {r : List Int} (h : PR w B v P rows) (hu : OwnI w B u r) (huv : Apart v u) (hup : ∀ j, j < rows.length → Apart (pN P j).1 u) (ho : OwnV 49 2 w' B v' (rows.length + 1) (pcells P ++ [u, .int .i64 x])) (hg : w.grownBy w' v.ownBlock) (hv : v'.ownBlock = v.ownBlock ∨ v'.ownBlock = some (w.heap.size + 1)) :
    PR w' B v' (P ++ [(u, x)]) (rows ++ [r]) := by
  have hl := h.len
  have hrow : ∀ j, j < rows.length → OwnI w' B (pN P j).1 (rN rows j) := fun j hj => (h.row j hj).kept (fun b hk => hg.block b ((h.row j hj).lt b hk).2 (fun e => h.apv j hj b e.symm hk))
  have hu' : OwnI w' B u r := hu.kept (fun b hk => hg.block b (hu.lt b hk).2 (fun e => huv b e.symm hk))
  have hav : ∀ (z : Value) (rz : List Int), OwnI w B z rz → Apart v z → Apart v' z := fun z rz hz ha b h1 h2 => by
    rcases hv with q | q
    · exact ha b (by rw [← q]; exact h1) h2
    · rw [q] at h1; simp at h1; have := (hz.lt b h2).2; omega
  refine ⟨by simp [hl], by rw [pcells_app]; simpa [pcells] using ho, fun j hj => ?_, fun j hj => ?_, fun i j hij hj => ?_⟩
  · simp at hj
    by_cases e : j = rows.length
    · subst e; rw [rN_last, ← hl, pN_last]; exact hu'
    · rw [rN_left (by omega), pN_left (by omega)]; exact hrow j (by omega)
  · simp at hj
    by_cases e : j = rows.length
    · subst e; rw [← hl, pN_last]; exact hav _ _ hu huv
    · rw [pN_left (by omega)]; exact hav _ _ (h.row j (by omega)) (h.apv j (by omega))
  · simp at hj
    by_cases e : j = rows.length
    · subst e; rw [pN_left (by omega), ← hl, pN_last]; exact hup i hij
    · rw [pN_left (by omega), pN_left (by omega)]; exact h.app i j hij (by omega)
/-- The last piece has grown. -/
theorem PR.last {P0 : List (Value × Int)} {R0 : List (List Int)} {u u' : Value} {x : Int} {r r' : List Int} {g m cap : Nat} (h : PR w B v (P0 ++ [(u, x)]) (R0 ++ [r])) (hv : v = .slice (some ⟨g, 0, none⟩) (m + 1) cap) (hm : P0.length = m) (hu' : OwnI w' B u' r') (hg : w.grownBy w' u.ownBlock) (hn : u'.ownBlock = u.ownBlock ∨ ∃ H, u'.ownBlock = some H ∧ w.heap.size ≤ H) :
    PR (w'.setCell ⟨g, m * 2, none⟩ u') B v (P0 ++ [(u', x)]) (R0 ++ [r']) := by
  subst hv
  have hl := h.len
  have hl0 : P0.length = R0.length := by simpa using hl
  have hR : (R0 ++ [r]).length = m + 1 := by rw [List.length_append, ← hl0, hm]; rfl
  have hR' : (R0 ++ [r']).length = m + 1 := by rw [List.length_append, ← hl0, hm]; rfl
  have hlast : pN (P0 ++ [(u, x)]) m = (u, x) := by rw [← hm]; exact pN_last _ _
  have hav := h.apv m (by omega)
  rw [hlast] at hav
  have hgl := (h.lt g rfl).2
  have hown := h.own
  rw [hR] at hown
  -- the row of pieces itself has not turned
  have hown' : OwnV 49 2 w' B (.slice (some ⟨g, 0, none⟩) (m + 1) cap) (m + 1) (pcells (P0 ++ [(u, x)])) := hown.kept (fun b hk => hg.block b (hown.lt b hk).2 (fun e => hav b hk e.symm))
  have hst := hown'.stored (m * 2) u'
  have hset : (pcells (P0 ++ [(u, x)])).set (m * 2) u' = pcells (P0 ++ [(u', x)]) := by
    rw [pcells_app, pcells_app, show m * 2 = (pcells P0).length by rw [pcells_len, hm], List.set_append_right _ _ (Nat.le_refl _)]
    simp [pcells]
  rw [hset] at hst
  have hsame : ∀ b, b ≠ g → (w'.setCell ⟨g, m * 2, none⟩ u').heap[b]? = w'.heap[b]? := fun b hb => heap_setCell_other w' ⟨g, m * 2, none⟩ b u' hb
  have hgu : ∀ b, u'.ownBlock = some b → b ≠ g := fun b hb e => by
    rcases hn with q | ⟨H, q, hH⟩
    · rw [q] at hb; exact hav g rfl (by rw [← e]; exact hb)
    · rw [q] at hb; simp at hb; omega
  have hrowj : ∀ j, j < m → OwnI (w'.setCell ⟨g, m * 2, none⟩ u') B (pN P0 j).1 (rN R0 j) := fun j hj => by
    have h1 := h.row j (by omega)
    rw [pN_left (by omega), rN_left (by omega)] at h1
    have h2 := h.apv j (by omega)
    rw [pN_left (by omega)] at h2
    have h3 := h.app j m hj (by omega)
    rw [pN_left (by omega), hlast] at h3
    refine (h1.kept (w' := w') (fun b hk => hg.block b (h1.lt b hk).2 (fun e => h3 b hk e.symm))).kept (fun b hk => hsame b (fun e => h2 g rfl (by rw [← e]; exact hk)))
  have hrowm : OwnI (w'.setCell ⟨g, m * 2, none⟩ u') B u' r' := hu'.kept (fun b hk => hsame b (hgu b hk))
  refine ⟨by simp [hl0], by rw [hR']; exact hst, fun j hj => ?_, fun j hj => ?_, fun i j hij hj => ?_⟩
  · by_cases e : j = m
    · subst e; rw [show pN (P0 ++ [(u', x)]) j = (u', x) by rw [← hm]; exact pN_last _ _, show rN (R0 ++ [r']) j = r' by rw [show j = R0.length by omega]; exact rN_last _ _]; exact hrowm
    · rw [pN_left (by omega), rN_left (by omega)]; exact hrowj j (by omega)
  · by_cases e : j = m
    · subst e
      rw [show pN (P0 ++ [(u', x)]) j = (u', x) by rw [← hm]; exact pN_last _ _]
      intro b h1 h2
      simp [Value.ownBlock] at h1
      exact hgu b h2 h1.symm
    · have := h.apv j (by omega)
      rw [pN_left (by omega)] at this ⊢; exact this
  · by_cases e : j = m
    · subst e
      have h3 := h.app i j hij (by omega)
      rw [pN_left (by omega), hlast] at h3
      rw [pN_left (by omega), show pN (P0 ++ [(u', x)]) j = (u', x) by rw [← hm]; exact pN_last _ _]
      intro b h1 h2
      rcases hn with q | ⟨H, q, hH⟩
      · exact h3 b h1 (by rw [← q]; exact h2)
      · rw [q] at h2
        simp at h2
        have := h.row i (by omega)
        rw [pN_left (by omega)] at this
        have := (this.lt b h1).2; omega
    · have := h.app i j hij (by omega)
      rw [pN_left (by omega), pN_left (by omega)] at this ⊢; exact this
end
theorem PR.lastCell {w w' : World} {B : Nat} {v : Value} {P0 : List (Value × Int)} {R0 : List (List Int)} {u : Value} {x : Int} {r : List Int} {g m cap : Nat} (h : PR w B v (P0 ++ [(u, x)]) (R0 ++ [r])) (hv : v = .slice (some ⟨g, 0, none⟩) (m + 1) cap) (hm : P0.length = m) (hg : w.grownBy w' u.ownBlock) :
    w'.cell? ⟨g, m * 2, none⟩ = some u ∧ w'.frozen? ⟨g, m * 2, none⟩ = false := by
  subst hv
  have hl := h.len
  have hl0 : P0.length = R0.length := by simpa using hl
  have hR : (R0 ++ [r]).length = m + 1 := by rw [List.length_append, ← hl0, hm]; rfl
  have hav := h.apv m (by omega)
  rw [show pN (P0 ++ [(u, x)]) m = (u, x) by rw [← hm]; exact pN_last _ _] at hav
  have hown := h.own
  rw [hR] at hown
  have hown' : OwnV 49 2 w' B (.slice (some ⟨g, 0, none⟩) (m + 1) cap) (m + 1) (pcells (P0 ++ [(u, x)])) := hown.kept (fun b hk => hg.block b (hown.lt b hk).2 (fun e => hav b hk e.symm))
  refine ⟨?_, hown'.frozen _⟩
  rw [hown'.cell _ (by omega), (pcells_at (by simp; omega)).1, show pN (P0 ++ [(u, x)]) m = (u, x) by rw [← hm]; exact pN_last _ _]
theorem PR.cellAt {w : World} {B : Nat} {P : List (Value × Int)} {rows : List (List Int)} {g n cap : Nat} (h : PR w B (.slice (some ⟨g, 0, none⟩) n cap) P rows) (j : Nat) (hj : j < rows.length) : w.cell? ⟨g, j * 2, none⟩ = some (pN P j).1 ∧ w.cell? ⟨g, j * 2 + 1, none⟩ = some (.int .i64 (pN P j).2) := by
  have hown := h.own
  obtain ⟨a, c, e⟩ := hown.slc
  simp only [Value.slice.injEq] at e
  obtain ⟨rfl, rfl, rfl⟩ := e
  have hl := h.len
  rw [hown.cell _ (by omega), hown.cell _ (by omega)]
  exact pcells_at (by omega)
theorem PR.snocN {w w' : World} {B c : Nat} {v u v' : Value} {P : List (Value × Int)} {rows : List (List Int)} {x : Int} {r : List Int} (hc : rows.length = c) (h : PR w B v P rows) (hu : OwnI w B u r) (huv : Apart v u) (hup : ∀ j, j < c → Apart (pN P j).1 u) (ho : OwnV 49 2 w' B v' (c + 1) (pcells P ++ [u, .int .i64 x])) (hg : w.grownBy w' v.ownBlock) (hv : v'.ownBlock = v.ownBlock ∨ v'.ownBlock = some (w.heap.size + 1)) :
    PR w' B v' (P ++ [(u, x)]) (rows ++ [r]) := by
  subst hc; exact h.snoc hu huv hup ho hg hv
theorem apart_nil (v : Value) : Apart v (.slice none 0 0) := fun k _ h => by simp [Value.ownBlock] at h
theorem rowRT : RowT 49 2 32 := ⟨by kernel_rfl, by kernel_rfl⟩
theorem rowInt : RowT 3 1 8 := ⟨by kernel_rfl, by kernel_rfl⟩
end Go.Proofs.YtgojdlbidjnmmaaGreat
