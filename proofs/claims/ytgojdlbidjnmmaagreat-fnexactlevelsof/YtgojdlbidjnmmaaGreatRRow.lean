import Derived.Test.YtgojdlbidjnmmaaGreatOwnGen
import Derived.Test.YtgojdlbidjnmmaaGreatAppendAt
namespace Go.Proofs.YtgojdlbidjnmmaaGreat
open Go.ChangeShapes Go.WideShapes Go.ChangeAt Go.RowKit
set_option linter.unusedSimpArgs false
set_option linter.unusedVariables false

theorem OwnI.form1 {w : World} {B : Nat} {v : Value} {l : List Int} (h : OwnI w B v l) (hl : l ≠ []) : ∃ g cap, v = .slice (some ⟨g, 0, none⟩) l.length cap ∧ l.length ≤ cap := by
  rcases h.forms with ⟨_, e⟩ | ⟨g, cap, e, _, _, e2, _⟩
  · exact absurd e hl
  · exact ⟨g, cap, e, e2⟩
/-- The slice at a place of a list of them. -/
def vN (vs : List Value) (j : Nat) : Value := vs.getD j (.slice none 0 0)
def rN (rows : List (List Int)) (j : Nat) : List Int := rows.getD j []
theorem vN_left {vs us : List Value} {j : Nat} (h : j < vs.length) : vN (vs ++ us) j = vN vs j := by simp [vN, List.getD, List.getElem?_append_left h]
theorem vN_last (vs : List Value) (u : Value) : vN (vs ++ [u]) vs.length = u := by simp [vN]
theorem rN_left {vs us : List (List Int)} {j : Nat} (h : j < vs.length) : rN (vs ++ us) j = rN vs j := by simp [rN, List.getD, List.getElem?_append_left h]
theorem rN_last (vs : List (List Int)) (u : List Int) : rN (vs ++ [u]) vs.length = u := by simp [rN]
/-- A slice that owns rows of numbers, none over another one. -/
structure RR (w : World) (B : Nat) (v : Value) (vs : List Value) (rows : List (List Int)) : Prop where
  len : vs.length = rows.length
  own : OwnV 23 1 w B v rows.length vs
  row : ∀ j, j < rows.length → OwnI w B (vN vs j) (rN rows j)
  apv : ∀ j, j < rows.length → Apart v (vN vs j)
  app : ∀ i j, i < j → j < rows.length → Apart (vN vs i) (vN vs j)
section
variable {w w' : World} {B : Nat} {v : Value} {vs : List Value} {rows : List (List Int)}
theorem RR.kept (h : RR w B v vs rows) (hb : ∀ b, (v.ownBlock = some b ∨ ∃ j, j < rows.length ∧ (vN vs j).ownBlock = some b) → w'.heap[b]? = w.heap[b]?) : RR w' B v vs rows :=
  ⟨h.len, h.own.kept (fun b hk => hb b (.inl hk)), fun j hj => (h.row j hj).kept (fun b hk => hb b (.inr ⟨j, hj, hk⟩)), h.apv, h.app⟩
theorem RR.below (h : RR w B v vs rows) (hb : Below w.heap.size w w') : RR w' B v vs rows :=
  ⟨h.len, h.own.below hb, fun j hj => (h.row j hj).below hb, h.apv, h.app⟩
theorem RR.nil (w : World) (B : Nat) : RR w B (.slice none 0 0) [] [] := ⟨rfl, OwnV.nil _ _ _ _, fun j hj => by simp at hj, fun j hj => by simp at hj, fun i j _ hj => by simp at hj⟩
theorem RR.empty (w : World) (B : Nat) (T : TypeId) (h : B ≤ w.heap.size) (hT : T = 23) : RR (w.alloc (.cells #[] T)) B (.slice (some ⟨w.heap.size, 0, none⟩) 0 0) [] [] :=
  ⟨rfl, OwnV.empty _ _ _ _ _ h hT, fun j hj => by simp at hj, fun j hj => by simp at hj, fun i j _ hj => by simp at hj⟩
theorem RR.slc (h : RR w B v vs rows) : ∃ a cap, v = .slice a rows.length cap := h.own.slc
theorem RR.lt (h : RR w B v vs rows) : ∀ b, v.ownBlock = some b → B ≤ b ∧ b < w.heap.size := h.own.lt
/-- A new row, behind all others. -/
theorem RR.snoc {w2 : World} {vx v' : Value} {x : List Int} (h : RR w B v vs rows) (hB : B ≤ w.heap.size) (hb : Below w.heap.size w w2) (hx : OwnI w2 w.heap.size vx x) (ho : OwnV 23 1 w' B v' (rows.length + 1) (vs ++ [vx])) (hg : w2.grownBy w' v.ownBlock) (hv : v'.ownBlock = v.ownBlock ∨ v'.ownBlock = some (w2.heap.size + 1)) :
    RR w' B v' (vs ++ [vx]) (rows ++ [x]) := by
  have hsz := hb.size
  have hrow : ∀ j, j < rows.length → OwnI w' B (vN vs j) (rN rows j) := fun j hj => ((h.row j hj).below hb).kept (fun b hk => hg.block b (Nat.lt_of_lt_of_le ((h.row j hj).lt b hk).2 hsz) (fun e => h.apv j hj b e.symm hk))
  have hx' : OwnI w' B vx x := (hx.mono hB).kept (fun b hk => hg.block b (hx.lt b hk).2 (fun e => by have := (h.lt b e.symm).2; have := (hx.lt b hk).1; omega))
  have hl := h.len
  refine ⟨by simp [hl], by simpa using ho, fun j hj => ?_, fun j hj => ?_, fun i j hij hj => ?_⟩
  · by_cases e : j = rows.length
    · subst e; rw [rN_last, ← hl, vN_last]; exact hx'
    · simp at hj
      rw [rN_left (by omega), vN_left (by omega)]; exact hrow j (by omega)
  · simp at hj
    by_cases e : j = rows.length
    · subst e; rw [← hl, vN_last]
      intro b h1 h2
      rcases hv with q | q
      · rw [q] at h1; have := (h.lt b h1).2; have := (hx.lt b h2).1; omega
      · rw [q] at h1; simp at h1; have := (hx.lt b h2).2; omega
    · rw [vN_left (by omega)]
      intro b h1 h2
      rcases hv with q | q
      · exact h.apv j (by omega) b (by rw [← q]; exact h1) h2
      · rw [q] at h1; simp at h1; have := ((h.row j (by omega)).lt b h2).2; omega
  · simp at hj
    by_cases e : j = rows.length
    · subst e
      rw [vN_left (by omega), ← hl, vN_last]
      intro b h1 h2
      have := ((h.row i (by omega)).lt b h1).2; have := (hx.lt b h2).1; omega
    · rw [vN_left (by omega), vN_left (by omega)]; exact h.app i j hij (by omega)
end
/-- .. its rows wherever they lie. -/
def RRX (w : World) (B : Nat) (v : Value) (rows : List (List Int)) : Prop := ∃ vs, RR w B v vs rows
theorem RRX.below {w w' : World} {B : Nat} {v : Value} {rows : List (List Int)} (h : RRX w B v rows) (hb : Below w.heap.size w w') : RRX w' B v rows := by
  obtain ⟨vs, h⟩ := h; exact ⟨vs, h.below hb⟩
theorem RRX.slc {w : World} {B : Nat} {v : Value} {rows : List (List Int)} (h : RRX w B v rows) : ∃ a cap, v = .slice a rows.length cap := by
  obtain ⟨vs, h⟩ := h; exact h.slc
theorem rowSS : RowT 23 1 24 := ⟨by kernel_rfl, by kernel_rfl⟩
/-- Places as numbers. -/
def natL (l : List Nat) : List Int := l.map fun (x : Nat) => (x : Int)
theorem natL_len (l : List Nat) : (natL l).length = l.length := by simp [natL]
theorem natL_app (l m : List Nat) : natL (l ++ m) = natL l ++ natL m := by simp [natL]
theorem fn_natL {l : List Nat} {j : Nat} (h : j < l.length) : fn (natL l) j = ((l[j] : Nat) : Int) := by simp [fn, natL, h]
theorem fn_natL_last (p : List Nat) (x : Nat) : fn (natL (p ++ [x])) p.length = (x : Int) := by simp [fn, natL]
def natR (r : List (List Nat)) : List (List Int) := r.map natL
theorem natR_app (r s : List (List Nat)) : natR (r ++ s) = natR r ++ natR s := by simp [natR]
theorem natR_len (r : List (List Nat)) : (natR r).length = r.length := by simp [natR]
end Go.Proofs.YtgojdlbidjnmmaaGreat
