import Derived.Deep.LoopGhost
import Derived.Test.YtgojdlbidjnmmabGreatPk5
import Derived.Test.YtgojdlbidjnmmabGreatPk1
import Derived.Test.YtgojdlbidjnmmabGreatPk2
namespace Go.Proofs.YtgojdlbidjnmmabGreat
open Go.ChangeShapes Go.WideShapes Go.ChangeAt Go.RowKit
set_option linter.unusedSimpArgs false
set_option linter.unusedVariables false

/-- Pairs of a slice and a number, cell by cell. -/
def pcells : List (Value × Int) → List Value
  | [] => []
  | p :: r => [p.1, .int .i64 p.2] ++ pcells r
theorem pcells_len (P : List (Value × Int)) : (pcells P).length = P.length * 2 := by
  induction P with
  | nil => rfl
  | cons x r ih => simp only [pcells, List.length_append, ih, List.length_cons, List.length_nil]; omega
theorem pcells_app (P Q : List (Value × Int)) : pcells (P ++ Q) = pcells P ++ pcells Q := by
  induction P with
  | nil => rfl
  | cons x r ih => simp only [List.cons_append, pcells, ih, List.nil_append]
def pN (P : List (Value × Int)) (j : Nat) : Value × Int := P.getD j (.slice none 0 0, 0)
theorem pN_left {P Q : List (Value × Int)} {j : Nat} (h : j < P.length) : pN (P ++ Q) j = pN P j := by simp [pN, List.getD, List.getElem?_append_left h]
theorem pN_last (P : List (Value × Int)) (u : Value × Int) : pN (P ++ [u]) P.length = u := by simp [pN]
theorem pcells_at {P : List (Value × Int)} {j : Nat} (h : j < P.length) : (pcells P)[j * 2]? = some (pN P j).1 ∧ (pcells P)[j * 2 + 1]? = some (.int .i64 (pN P j).2) := by
  induction P generalizing j with
  | nil => simp at h
  | cons x r ih =>
    cases j with
    | zero => exact ⟨rfl, rfl⟩
    | succ j =>
      have := ih (j := j) (by simpa using h)
      rw [show (j + 1) * 2 = j * 2 + 2 by omega, show j * 2 + 2 + 1 = (j * 2 + 1) + 2 by omega]
      simp only [pcells, List.cons_append, List.nil_append, List.getElem?_cons_succ]
      exact this
/-- A slice that owns pieces: each a row of numbers and its level, none over another one. -/
structure PR (w : World) (B : Nat) (v : Value) (P : List (Value × Int)) (rows : List (List Int)) : Prop where
  len : P.length = rows.length
  own : OwnV 57 2 w B v rows.length (pcells P)
  row : ∀ j, j < rows.length → OwnI w B (pN P j).1 (rN rows j)
  apv : ∀ j, j < rows.length → Apart v (pN P j).1
  app : ∀ i j, i < j → j < rows.length → Apart (pN P i).1 (pN P j).1
section
variable {w w' : World} {B : Nat} {v : Value} {P : List (Value × Int)} {rows : List (List Int)}
theorem PR.below (h : PR w B v P rows) (hb : Below w.heap.size w w') : PR w' B v P rows :=
  ⟨h.len, h.own.below hb, fun j hj => (h.row j hj).below hb, h.apv, h.app⟩
theorem PR.kept (h : PR w B v P rows) (hb : ∀ b, (v.ownBlock = some b ∨ ∃ j, j < rows.length ∧ (pN P j).1.ownBlock = some b) → w'.heap[b]? = w.heap[b]?) : PR w' B v P rows :=
  ⟨h.len, h.own.kept (fun b hk => hb b (.inl hk)), fun j hj => (h.row j hj).kept (fun b hk => hb b (.inr ⟨j, hj, hk⟩)), h.apv, h.app⟩
theorem PR.nil (w : World) (B : Nat) : PR w B (.slice none 0 0) [] [] := ⟨rfl, OwnV.nil _ _ _ _, fun j hj => by simp at hj, fun j hj => by simp at hj, fun i j _ hj => by simp at hj⟩
theorem PR.slc (h : PR w B v P rows) : ∃ a cap, v = .slice a rows.length cap := h.own.slc
theorem PR.lt (h : PR w B v P rows) : ∀ b, v.ownBlock = some b → B ≤ b ∧ b < w.heap.size := h.own.lt
/-- One more piece. -/
theorem PR.snoc {u v' : Value} {x : Int} {r : List Int} (h : PR w B v P rows) (hu : OwnI w B u r) (huv : Apart v u) (hup : ∀ j, j < rows.length → Apart (pN P j).1 u) (ho : OwnV 57 2 w' B v' (rows.length + 1) (pcells P ++ [u, .int .i64 x])) (hg : w.grownBy w' v.ownBlock) (hv : v'.ownBlock = v.ownBlock ∨ v'.ownBlock = some (w.heap.size + 1)) :
    PR w' B v' (P ++ [(u, x)]) (rows ++ [r]) := by
  have hl := h.len
  have hrow : ∀ j, j < rows.length → OwnI w' B (pN P j).1 (rN rows j) := fun j hj => (h.row j hj).kept (fun b hk => hg.block b ((h.row j hj).lt b hk).2 (fun e => h.apv j hj b e.symm hk))
  have hu' : OwnI w' B u r := hu.kept (fun b hk => hg.block b (hu.lt b hk).2 (fun e => huv b e.symm hk))
  have hav : ∀ (z : Value) (rz : List Int), OwnI w B z rz → Apart v z → Apart v' z := fun z rz hz ha b h1 h2 => by
    rcases hv with q | q
    · exact ha b (by rw [← q]; exact h1) h2
    · rw [q] at h1; simp at h1; have := (hz.lt b h2).2; omega
  refine ⟨by simp [hl], by rw [pcells_app]; simpa [pcells] using ho, fun j hj => ?_, fun j hj => ?_, fun i j hij hj => ?_⟩
  · simp at hj
    by_cases e : j = rows.length
    · subst e; rw [rN_last, ← hl, pN_last]; exact hu'
    · rw [rN_left (by omega), pN_left (by omega)]; exact hrow j (by omega)
  · simp at hj
    by_cases e : j = rows.length
    · subst e; rw [← hl, pN_last]; exact hav _ _ hu huv
    · rw [pN_left (by omega)]; exact hav _ _ (h.row j (by omega)) (h.apv j (by omega))
  · simp at hj
    by_cases e : j = rows.length
    · subst e; rw [pN_left (by omega), ← hl, pN_last]; exact hup i hij
    · rw [pN_left (by omega), pN_left (by omega)]; exact h.app i j hij (by omega)
/-- The last piece has grown. -/
theorem PR.last {P0 : List (Value × Int)} {R0 : List (List Int)} {u u' : Value} {x : Int} {r r' : List Int} {g m cap : Nat} (h : PR w B v (P0 ++ [(u, x)]) (R0 ++ [r])) (hv : v = .slice (some ⟨g, 0, none⟩) (m + 1) cap) (hm : P0.length = m) (hu' : OwnI w' B u' r') (hg : w.grownBy w' u.ownBlock) (hn : u'.ownBlock = u.ownBlock ∨ ∃ H, u'.ownBlock = some H ∧ w.heap.size ≤ H) :
    PR (w'.setCell ⟨g, m * 2, none⟩ u') B v (P0 ++ [(u', x)]) (R0 ++ [r']) := by
  subst hv
  have hl := h.len
  have hl0 : P0.length = R0.length := by simpa using hl
  have hR : (R0 ++ [r]).length = m + 1 := by rw [List.length_append, ← hl0, hm]; rfl
  have hR' : (R0 ++ [r']).length = m + 1 := by rw [List.length_append, ← hl0, hm]; rfl
  have hlast : pN (P0 ++ [(u, x)]) m = (u, x) := by rw [← hm]; exact pN_last _ _
  have hav := h.apv m (by omega)
  rw [hlast] at hav
  have hgl := (h.lt g rfl).2
  have hown := h.own
  rw [hR] at hown
  -- the row of pieces itself has not turned
  have hown' : OwnV 57 2 w' B (.slice (some ⟨g, 0, none⟩) (m + 1) cap) (m + 1) (pcells (P0 ++ [(u, x)])) := hown.kept (fun b hk => hg.block b (hown.lt b hk).2 (fun e => hav b hk e.symm))
  have hst := hown'.stored (m * 2) u'
  have hset : (pcells (P0 ++ [(u, x)])).set (m * 2) u' = pcells (P0 ++ [(u', x)]) := by
    rw [pcells_app, pcells_app, show m * 2 = (pcells P0).length by rw [pcells_len, hm], List.set_append_right _ _ (Nat.le_refl _)]
    simp [pcells]
  rw [hset] at hst
  have hsame : ∀ b, b ≠ g → (w'.setCell ⟨g, m * 2, none⟩ u').heap[b]? = w'.heap[b]? := fun b hb => heap_setCell_other w' ⟨g, m * 2, none⟩ b u' hb
  have hgu : ∀ b, u'.ownBlock = some b → b ≠ g := fun b hb e => by
    rcases hn with q | ⟨H, q, hH⟩
    · rw [q] at hb; exact hav g rfl (by rw [← e]; exact hb)
    · rw [q] at hb; simp at hb; omega
  have hrowj : ∀ j, j < m → OwnI (w'.setCell ⟨g, m * 2, none⟩ u') B (pN P0 j).1 (rN R0 j) := fun j hj => by
    have h1 := h.row j (by omega)
    rw [pN_left (by omega), rN_left (by omega)] at h1
    have h2 := h.apv j (by omega)
    rw [pN_left (by omega)] at h2
    have h3 := h.app j m hj (by omega)
    rw [pN_left (by omega), hlast] at h3
    refine (h1.kept (w' := w') (fun b hk => hg.block b (h1.lt b hk).2 (fun e => h3 b hk e.symm))).kept (fun b hk => hsame b (fun e => h2 g rfl (by rw [← e]; exact hk)))
  have hrowm : OwnI (w'.setCell ⟨g, m * 2, none⟩ u') B u' r' := hu'.kept (fun b hk => hsame b (hgu b hk))
  refine ⟨by simp [hl0], by rw [hR']; exact hst, fun j hj => ?_, fun j hj => ?_, fun i j hij hj => ?_⟩
  · by_cases e : j = m
    · subst e; rw [show pN (P0 ++ [(u', x)]) j = (u', x) by rw [← hm]; exact pN_last _ _, show rN (R0 ++ [r']) j = r' by rw [show j = R0.length by omega]; exact rN_last _ _]; exact hrowm
    · rw [pN_left (by omega), rN_left (by omega)]; exact hrowj j (by omega)
  · by_cases e : j = m
    · subst e
      rw [show pN (P0 ++ [(u', x)]) j = (u', x) by rw [← hm]; exact pN_last _ _]
      intro b h1 h2
      simp [Value.ownBlock] at h1
      exact hgu b h2 h1.symm
    · have := h.apv j (by omega)
      rw [pN_left (by omega)] at this ⊢; exact this
  · by_cases e : j = m
    · subst e
      have h3 := h.app i j hij (by omega)
      rw [pN_left (by omega), hlast] at h3
      rw [pN_left (by omega), show pN (P0 ++ [(u', x)]) j = (u', x) by rw [← hm]; exact pN_last _ _]
      intro b h1 h2
      rcases hn with q | ⟨H, q, hH⟩
      · exact h3 b h1 (by rw [← q]; exact h2)
      · rw [q] at h2
        simp at h2
        have := h.row i (by omega)
        rw [pN_left (by omega)] at this
        have := (this.lt b h1).2; omega
    · have := h.app i j hij (by omega)
      rw [pN_left (by omega), pN_left (by omega)] at this ⊢; exact this
end
theorem PR.lastCell {w w' : World} {B : Nat} {v : Value} {P0 : List (Value × Int)} {R0 : List (List Int)} {u : Value} {x : Int} {r : List Int} {g m cap : Nat} (h : PR w B v (P0 ++ [(u, x)]) (R0 ++ [r])) (hv : v = .slice (some ⟨g, 0, none⟩) (m + 1) cap) (hm : P0.length = m) (hg : w.grownBy w' u.ownBlock) :
    w'.cell? ⟨g, m * 2, none⟩ = some u ∧ w'.frozen? ⟨g, m * 2, none⟩ = false := by
  subst hv
  have hl := h.len
  have hl0 : P0.length = R0.length := by simpa using hl
  have hR : (R0 ++ [r]).length = m + 1 := by rw [List.length_append, ← hl0, hm]; rfl
  have hav := h.apv m (by omega)
  rw [show pN (P0 ++ [(u, x)]) m = (u, x) by rw [← hm]; exact pN_last _ _] at hav
  have hown := h.own
  rw [hR] at hown
  have hown' : OwnV 57 2 w' B (.slice (some ⟨g, 0, none⟩) (m + 1) cap) (m + 1) (pcells (P0 ++ [(u, x)])) := hown.kept (fun b hk => hg.block b (hown.lt b hk).2 (fun e => hav b hk e.symm))
  refine ⟨?_, hown'.frozen _⟩
  rw [hown'.cell _ (by omega), (pcells_at (by simp; omega)).1, show pN (P0 ++ [(u, x)]) m = (u, x) by rw [← hm]; exact pN_last _ _]
theorem PR.cellAt {w : World} {B : Nat} {P : List (Value × Int)} {rows : List (List Int)} {g n cap : Nat} (h : PR w B (.slice (some ⟨g, 0, none⟩) n cap) P rows) (j : Nat) (hj : j < rows.length) : w.cell? ⟨g, j * 2, none⟩ = some (pN P j).1 ∧ w.cell? ⟨g, j * 2 + 1, none⟩ = some (.int .i64 (pN P j).2) := by
  have hown := h.own
  obtain ⟨a, c, e⟩ := hown.slc
  simp only [Value.slice.injEq] at e
  obtain ⟨rfl, rfl, rfl⟩ := e
  have hl := h.len
  rw [hown.cell _ (by omega), hown.cell _ (by omega)]
  exact pcells_at (by omega)
theorem PR.snocN {w w' : World} {B c : Nat} {v u v' : Value} {P : List (Value × Int)} {rows : List (List Int)} {x : Int} {r : List Int} (hc : rows.length = c) (h : PR w B v P rows) (hu : OwnI w B u r) (huv : Apart v u) (hup : ∀ j, j < c → Apart (pN P j).1 u) (ho : OwnV 57 2 w' B v' (c + 1) (pcells P ++ [u, .int .i64 x])) (hg : w.grownBy w' v.ownBlock) (hv : v'.ownBlock = v.ownBlock ∨ v'.ownBlock = some (w.heap.size + 1)) :
    PR w' B v' (P ++ [(u, x)]) (rows ++ [r]) := by
  subst hc; exact h.snoc hu huv hup ho hg hv
theorem apart_nil (v : Value) : Apart v (.slice none 0 0) := fun k _ h => by simp [Value.ownBlock] at h
theorem rowRT : RowT 57 2 32 := ⟨by kernel_rfl, by kernel_rfl⟩
theorem rowInt : RowT 3 1 8 := ⟨by kernel_rfl, by kernel_rfl⟩
end Go.Proofs.YtgojdlbidjnmmabGreat
namespace Go.Proofs.YtgojdlbidjnmmabGreat
set_option linter.unusedSimpArgs false

def noP (c : Int) : Bool := decide ((11 ≤ c ∧ c ≤ 13) ∨ 19 ≤ c)
def like (c : Int) : Int := if c = 1 then 1 else if c = 2 ∨ c = 4 ∨ c = 7 then 2 else 0
def ownOf (lv : Int) : Int := if lv % 2 = 0 then 1 else 2
def among (a b lv : Int) : Int := if like a = 0 ∨ like a ≠ like b then ownOf lv else like a
def ahP (z : Nat → Int) (before : Int) : Nat → Int
  | 0 => before
  | k + 1 => if noP (z k) = true then ahP z before k else z k
def bhP (z : Nat → Int) (n : Nat) (after : Int) : Nat → Int
  | 0 => after
  | d + 1 => if noP (z (n - (d + 1))) = true then bhP z n after d else z (n - (d + 1))
def plainAt (z : Nat → Int) (n : Nat) (before after lv : Int) (k : Nat) : Int :=
  if noP (z k) = true then among (ahP z before k) (bhP z n after (n - k)) lv else z k
def plainL (l : List Int) (before after lv : Int) : List Int := (List.range l.length).map (plainAt (fn l) l.length before after lv)
theorem plainL_len (l : List Int) (b a lv : Int) : (plainL l b a lv).length = l.length := by simp [plainL]
theorem fn_plainL {l : List Int} {b a lv : Int} {j : Nat} (h : j < l.length) : fn (plainL l b a lv) j = plainAt (fn l) l.length b a lv j := by simp [fn, plainL, h]
theorem ahP_run {z : Nat → Int} {before : Int} {f t : Nat} (hft : f ≤ t) (h : ∀ j, f ≤ j → j < t → noP (z j) = true) : ahP z before t = ahP z before f := by
  induction t with
  | zero => have : f = 0 := by omega
            subst this; rfl
  | succ t ih =>
    by_cases e : f = t + 1
    · subst e; rfl
    · simp only [ahP]
      rw [if_pos (h t (by omega) (by omega))]
      exact ih (by omega) (fun j a b => h j a (by omega))
theorem bhP_step {z : Nat → Int} {n : Nat} {after : Int} {k : Nat} (hk : k < n) (h : noP (z k) = true) : bhP z n after (n - k) = bhP z n after (n - (k + 1)) := by
  obtain ⟨m, hm⟩ : ∃ m, n - k = m + 1 := ⟨n - k - 1, by omega⟩
  have e : n - (m + 1) = k := by omega
  have e2 : n - (k + 1) = m := by omega
  rw [hm, e2]; simp only [bhP, e]; rw [if_pos h]
theorem bhP_hit {z : Nat → Int} {n : Nat} {after : Int} {k : Nat} (hk : k < n) (h : noP (z k) = false) : bhP z n after (n - k) = z k := by
  obtain ⟨m, hm⟩ : ∃ m, n - k = m + 1 := ⟨n - k - 1, by omega⟩
  have e : n - (m + 1) = k := by omega
  rw [hm]; simp only [bhP, e]; rw [if_neg (by rw [h]; simp)]
theorem bhP_run {z : Nat → Int} {n : Nat} {after : Int} {f t : Nat} (hft : f ≤ t) (htn : t ≤ n) (h : ∀ j, f ≤ j → j < t → noP (z j) = true) : bhP z n after (n - f) = bhP z n after (n - t) := by
  induction t with
  | zero => have : f = 0 := by omega
            subst this; rfl
  | succ t ih =>
    by_cases e : f = t + 1
    · subst e; rfl
    · rw [ih (by omega) (by omega) (fun j a b => h j a (by omega)), bhP_step (by omega) (h t (by omega) (by omega))]
theorem plain_run {z : Nat → Int} {n : Nat} {before after lv : Int} {f t : Nat} (htn : t ≤ n) (h : ∀ j, f ≤ j → j < t → noP (z j) = true) {j : Nat} (h1 : f ≤ j) (h2 : j < t) : plainAt z n before after lv j = among (ahP z before f) (bhP z n after (n - t)) lv := by
  unfold plainAt
  rw [if_pos (h j h1 h2), ahP_run h1 (fun i a b => h i a (by omega)), bhP_run (f := j) (t := t) (by omega) htn (fun i a b => h i (by omega) b)]
theorem plain_other {z : Nat → Int} {n : Nat} {before after lv : Int} {j : Nat} (h : noP (z j) = false) : plainAt z n before after lv j = z j := by
  unfold plainAt; rw [if_neg (by rw [h]; simp)]
theorem ahP_hit {z : Nat → Int} {before : Int} {k : Nat} (h : noP (z k) = false) : ahP z before (k + 1) = z k := by
  simp only [ahP]; rw [if_neg (by rw [h]; simp)]

def clsA (z : Nat → Int) : Nat → Bool
  | 0 => true
  | k + 1 => clsA z k && decide (1 ≤ z k ∧ z k ≤ 22)
theorem clsA_iff (z : Nat → Int) (n : Nat) : clsA z n = true ↔ ∀ j, j < n → 1 ≤ z j ∧ z j ≤ 22 := by
  induction n with
  | zero => simp [clsA]
  | succ n ih =>
    simp only [clsA, Bool.and_eq_true, ih, decide_eq_true_eq]
    constructor
    · intro h j hj
      by_cases e : j = n
      · subst e; exact h.2
      · exact h.1 j (by omega)
    · intro h; exact ⟨fun j hj => h j (by omega), h n (by omega)⟩
def clsOk (z : Nat → Int) (n : Nat) : Bool := decide (n ≤ 80) && clsA z n
theorem clsOk_yes {z : Nat → Int} {n : Nat} (h : ∀ j, j < n → 1 ≤ z j ∧ z j ≤ 22) : clsOk z n = decide (n ≤ 80) := by
  simp [clsOk, (clsA_iff z n).2 h]
theorem clsOk_no {z : Nat → Int} {n k : Nat} (hk : k < n) (h : ¬ (1 ≤ z k ∧ z k ≤ 22)) : clsOk z n = false := by
  unfold clsOk
  rw [Bool.and_eq_false_iff]; right
  rw [Bool.eq_false_iff]; intro a; exact h ((clsA_iff z n).1 a k hk)
theorem clsOk_long {z : Nat → Int} {n : Nat} (h : 80 < n) : clsOk z n = false := by simp [clsOk]; omega
theorem clsOk_out {z : Nat → Int} {n : Nat} (h : clsOk z n = true) : n ≤ 80 ∧ ∀ j, j < n → 1 ≤ z j ∧ z j ≤ 22 := by
  unfold clsOk at h; rw [Bool.and_eq_true, decide_eq_true_eq, clsA_iff] at h; exact h
def sideB (c : Int) : Bool := decide (c = 1 ∨ c = 2)
def lvB (lv : Int) : Bool := decide (0 ≤ lv ∧ lv ≤ 22)
def plainR (l : List Int) (before after lv : Int) : List Int :=
  if clsOk (fn l) l.length = true ∧ sideB before = true ∧ sideB after = true ∧ lvB lv = true then plainL l before after lv else []
/-- The side as the specification says it. -/
def asB (c : Int) : Int := if c = 4 ∨ c = 7 then 2 else c
theorem among_as (a b lv : Int) : (if asB a = asB b ∧ sideB (asB a) = true then asB a else ownOf lv) = among a b lv := by
  unfold among like asB sideB
  by_cases h1 : a = 1 <;> by_cases h2 : a = 2 <;> by_cases h4 : a = 4 <;> by_cases h7 : a = 7 <;> by_cases g1 : b = 1 <;> by_cases g2 : b = 2 <;> by_cases g4 : b = 4 <;> by_cases g7 : b = 7 <;> simp_all <;> omega
theorem as_side {c : Int} (h : sideB c = true) : asB c = c := by
  unfold sideB at h; rw [decide_eq_true_eq] at h
  rcases h with rfl | rfl <;> rfl
end Go.Proofs.YtgojdlbidjnmmabGreat
namespace Go.Proofs.YtgojdlbidjnmmabGreat
open Go.ChangeShapes Go.WideShapes Go.ChangeAt Go.RowKit
set_option linter.unusedSimpArgs false
set_option linter.unusedVariables false

/-- A stack, linked; its nodes lie in none of the blocks X. -/
def Lk (w : World) (X : Nat → Prop) : Value → List Tl → Prop
  | v, [] => v = .pointer none
  | v, x :: r => ∃ (b : Nat) (nx : Option Addr), v = .pointer (some ⟨b, 0, none⟩) ∧ ¬ X b ∧ b < w.heap.size ∧ w.cell? ⟨b, 0, none⟩ = some (.int .i64 x.level) ∧ w.cell? ⟨b, 1, none⟩ = some (.int .i64 x.side) ∧ w.cell? ⟨b, 2, none⟩ = some (.bool x.alone) ∧ w.cell? ⟨b, 3, none⟩ = some (.pointer nx) ∧ Lk w X (.pointer nx) r
theorem Lk.kept {w w' : World} {X : Nat → Prop} (hs : w.heap.size ≤ w'.heap.size) (hb : ∀ b, ¬ X b → b < w.heap.size → w'.heap[b]? = w.heap[b]?) : ∀ (st : List Tl) (v : Value), Lk w X v st → Lk w' X v st := by
  intro st
  induction st with
  | nil => intro v h; exact h
  | cons x r ih =>
    rintro v ⟨b, nx, h1, h2, h3, h4, h5, h6, h7, h8⟩
    have e : ∀ j, w'.cell? ⟨b, j, none⟩ = w.cell? ⟨b, j, none⟩ := fun j => World.cell?_of_block (hb b h2 h3)
    exact ⟨b, nx, h1, h2, by omega, (e 0).trans h4, (e 1).trans h5, (e 2).trans h6, (e 3).trans h7, ih _ h8⟩
theorem Lk.ptr {w : World} {X : Nat → Prop} {v : Value} {st : List Tl} (h : Lk w X v st) : ∃ p, v = .pointer p := by
  cases st with
  | nil => exact ⟨_, h⟩
  | cons x r => obtain ⟨b, nx, h, _⟩ := h; exact ⟨_, h⟩

/-- What levelStack holds in memory. -/
structure SIn (w : World) (X : Nat → Prop) (S : Nat) (top : Option Addr) (s : TS) : Prop where
  lt : S < w.heap.size
  isX : X S
  xlt : ∀ b, X b → b < w.heap.size
  c0 : w.cell? ⟨S, 0, none⟩ = some (.pointer top)
  c1 : w.cell? ⟨S, 1, none⟩ = some (.int .i64 s.lost)
  c2 : w.cell? ⟨S, 2, none⟩ = some (.int .i64 s.skip)
  fz : ∀ j, w.frozen? ⟨S, j, none⟩ = false
  lk : Lk w X (.pointer top) s.st
theorem setI_same {w : World} {b i : Nat} {x u : Value} (h : w.cell? ⟨b, i, none⟩ = some u) : (w.setCell ⟨b, i, none⟩ x).cell? ⟨b, i, none⟩ = some x := World.cell?_setCell_same _ _ _ h
theorem setI_diff {w : World} {b i j : Nat} {x v : Value} (hne : i ≠ j) (h : w.cell? ⟨b, j, none⟩ = some v) : (w.setCell ⟨b, i, none⟩ x).cell? ⟨b, j, none⟩ = some v := by
  rw [World.cell?_setCell_other _ _ _ _ (by intro e; apply hne; injection e)]; exact h
section
variable {w w' : World} {X : Nat → Prop} {S : Nat} {top : Option Addr} {s : TS}
theorem SIn.kept (h : SIn w X S top s) (hs : w.heap.size ≤ w'.heap.size) (hb : ∀ b, (¬ X b ∨ b = S) → b < w.heap.size → w'.heap[b]? = w.heap[b]?) : SIn w' X S top s := by
  have hS := hb S (.inr rfl) h.lt
  have e : ∀ j, w'.cell? ⟨S, j, none⟩ = w.cell? ⟨S, j, none⟩ := fun j => World.cell?_of_block hS
  exact ⟨Nat.lt_of_lt_of_le h.lt hs, h.isX, fun b hb => Nat.lt_of_lt_of_le (h.xlt b hb) hs, (e 0).trans h.c0, (e 1).trans h.c1, (e 2).trans h.c2, fun j => (World.frozen?_of_block hS).trans (h.fz j), Lk.kept hs (fun b hx hl => hb b (.inl hx) hl) _ _ h.lk⟩
theorem SIn.below (h : SIn w X S top s) (hb : Below w.heap.size w w') : SIn w' X S top s := h.kept hb.size (fun b _ hl => hb.block b hl)
theorem SIn.put {j : Nat} {x : Value} {top' : Option Addr} {s' : TS} (h : SIn w X S top s) (e0 : (w.setCell ⟨S, j, none⟩ x).cell? ⟨S, 0, none⟩ = some (.pointer top')) (e1 : (w.setCell ⟨S, j, none⟩ x).cell? ⟨S, 1, none⟩ = some (.int .i64 s'.lost)) (e2 : (w.setCell ⟨S, j, none⟩ x).cell? ⟨S, 2, none⟩ = some (.int .i64 s'.skip)) (hl : Lk w X (.pointer top') s'.st) :
    SIn (w.setCell ⟨S, j, none⟩ x) X S top' s' :=
  ⟨by rw [World.size_setCell]; exact h.lt, h.isX, fun b hb => by rw [World.size_setCell]; exact h.xlt b hb, e0, e1, e2, fun q => by rw [World.frozen?_setCell]; exact h.fz q,
    Lk.kept (by rw [World.size_setCell]; exact Nat.le_refl _) (fun b hx _ => heap_setCell_other w ⟨S, j, none⟩ b x (fun e => hx (by rw [e]; exact h.isX))) _ _ hl⟩
theorem SIn.put1 {st : List Tl} {lost skip : Int} (h : SIn w X S top ⟨st, lost, skip⟩) (x : Int) : SIn (w.setCell ⟨S, 1, none⟩ (.int .i64 x)) X S top ⟨st, x, skip⟩ :=
  h.put (setI_diff (by omega) h.c0) (setI_same h.c1) (setI_diff (by omega) h.c2) h.lk
theorem SIn.put2 {st : List Tl} {lost skip : Int} (h : SIn w X S top ⟨st, lost, skip⟩) (x : Int) : SIn (w.setCell ⟨S, 2, none⟩ (.int .i64 x)) X S top ⟨st, lost, x⟩ :=
  h.put (setI_diff (by omega) h.c0) (setI_diff (by omega) h.c1) (setI_same h.c2) h.lk
theorem SIn.put0 {st st' : List Tl} {lost skip : Int} {top' : Option Addr} (h : SIn w X S top ⟨st, lost, skip⟩) (hl : Lk w X (.pointer top') st') : SIn (w.setCell ⟨S, 0, none⟩ (.pointer top')) X S top' ⟨st', lost, skip⟩ :=
  h.put (setI_same h.c0) (setI_diff (by omega) h.c1) (setI_diff (by omega) h.c2) hl
end
/-- Nothing but one block has turned. -/
theorem grown_set (w : World) (S j : Nat) (x : Value) : w.grownBy (w.setCell ⟨S, j, none⟩ x) (some S) :=
  ⟨rfl, rfl, rfl, by rw [World.size_setCell]; exact Nat.le_refl _, fun k _ hk => heap_setCell_other w ⟨S, j, none⟩ k x (fun e => hk (by rw [e]))⟩
theorem grown_refl (w : World) (r : Option Nat) : w.grownBy w r := ⟨rfl, rfl, rfl, Nat.le_refl _, fun _ _ _ => rfl⟩
theorem grown_tr {a b c : World} {r : Option Nat} (h : a.grownBy b r) (k : b.grownBy c r) : a.grownBy c r :=
  ⟨k.os.trans h.os, k.tape.trans h.tape, k.output.trans h.output, Nat.le_trans h.size k.size, fun i hi hne => (k.block i (Nat.lt_of_lt_of_le hi h.size) hne).trans (h.block i hi hne)⟩

set_option maxHeartbeats 1000000 in
theorem implSideOf (c : Int) (w : World) (h0 : 0 ≤ c) : Calls Tryz.prog 81 #[.int .i64 c] w fun e w' => e = .returned (.int .i64 (ownOf c)) ∧ w' = w := by
  go_enter Tryz.func81, Tryz.ntmps81
  go_wp2
  all_goals (go_ret; refine ⟨retInt ?_, rfl⟩)
  all_goals (try simp only [beq_iff_eq, beq_eq_false_iff_ne, ne_eq, decide_eq_true_eq, decide_eq_false_iff_not] at *)
  all_goals (unfold ownOf)
  all_goals (repeat (first | rfl | rw [if_pos (by omega)] | rw [if_neg (by omega)]))

theorem endI_lost {st : List Tl} {lost skip : Int} (h : 0 < lost) : endT ⟨st, lost, skip⟩ = ⟨st, lost - 1, skip⟩ := by unfold endT; exact if_pos h
theorem endI_none {st : List Tl} {lost skip : Int} (h : ¬ 0 < lost) (ha : hasA st = false) : endT ⟨st, lost, skip⟩ = ⟨st, lost, skip⟩ := by
  unfold endT; rw [if_neg (by exact h), if_neg (by show ¬ hasA st = true; rw [ha]; simp)]
theorem endI_some {st : List Tl} {lost skip : Int} (h : ¬ 0 < lost) (ha : hasA st = true) : endT ⟨st, lost, skip⟩ = ⟨cutA st, lost, 0⟩ := by
  unfold endT; rw [if_neg (by exact h), if_pos (by exact ha)]
theorem dropI_lost {st : List Tl} {lost skip : Int} (h : 0 < lost) : dropT ⟨st, lost, skip⟩ = ⟨st, lost, skip⟩ := by unfold dropT; exact if_pos h
theorem dropI_skip {st : List Tl} {lost skip : Int} (h : ¬ 0 < lost) (h2 : 0 < skip) : dropT ⟨st, lost, skip⟩ = ⟨st, lost, skip - 1⟩ := by unfold dropT; rw [if_neg (by exact h)]; exact if_pos h2
theorem dropI_top {st : List Tl} {lost skip : Int} (h : ¬ 0 < lost) (h2 : ¬ 0 < skip) : dropT ⟨st, lost, skip⟩ = ⟨dropL st, lost, skip⟩ := by unfold dropT; rw [if_neg (by exact h), if_neg (by exact h2)]

set_option maxHeartbeats 2000000 in
theorem implEmb {X : Nat → Prop} {S : Nat} {top : Option Addr} {s : TS} (w : World) (h : SIn w X S top s) (hne : ∃ x r, s.st = x :: r) (h0 : 0 ≤ s.lost) (h2 : 0 ≤ s.skip) (h3 : s.skip ≤ 1000) :
    Calls Tryz.prog 95 #[.pointer (some ⟨S, 0, none⟩)] w fun e w' => e = .returned (.tuple #[]) ∧ (∃ top', SIn w' X S top' (dropT s)) ∧ w.grownBy w' (some S) := by
  obtain ⟨st, lost, skip⟩ := s
  obtain ⟨x, r, hx⟩ := hne
  simp only at hx h0 h2 h3 h
  subst hx
  have c0 := h.c0
  have c1 := h.c1
  have c2 := h.c2
  have f0 := h.fz 0
  have f2 := h.fz 2
  simp only at c1 c2
  have H : Hid _ := h
  by_cases hp : 0 < lost
  · rw [dropI_lost hp]
    have hp1 : decide (lost > 0) = true := by simpa using hp
    clear h
    go_enter Tryz.func95, Tryz.ntmps95
    go_wp2_with fail
    go_end0
    exact ⟨rfl, ⟨_, H.out⟩, grown_refl _ _⟩
  · have hp1 : decide (lost > 0) = false := by simpa using hp
    by_cases hs : 0 < skip
    · rw [dropI_skip hp hs]
      have hs1 : decide (skip > 0) = true := by simpa using hs
      clear h
      go_enter Tryz.func95, Tryz.ntmps95
      go_wp2_with fail
      go_end0
      exact ⟨rfl, ⟨_, H.out.put2 (skip - 1)⟩, grown_set _ _ _ _⟩
    · rw [dropI_top hp hs]
      have hs1 : decide (skip > 0) = false := by simpa using hs
      obtain ⟨b, nx, e, hb1, hb2, n0, n1, n2, n3, hlk⟩ := h.lk
      simp only [Value.pointer.injEq] at e
      subst e
      obtain ⟨xa, hxa⟩ : ∃ xa, x.alone = xa := ⟨_, rfl⟩
      rw [hxa] at n2
      have HXA : Hid _ := hxa
      have HL : Hid _ := hlk
      have H : Hid _ := h
      clear h hlk hxa
      cases xa
      · cases r with
        | nil =>
          have hn : nx = none := by have := HL.out; simpa [Lk] using this
          subst hn
          go_enter Tryz.func95, Tryz.ntmps95
          go_wp2_with fail
          go_end0
          exact ⟨rfl, ⟨_, H.out⟩, grown_refl _ _⟩
        | cons y r =>
          obtain ⟨b', nx', e', _⟩ := HL.out
          simp only [Value.pointer.injEq] at e'
          subst e'
          have hd2 : dropL (x :: y :: r) = y :: r := by
            show (if x.alone = true then x :: y :: r else y :: r) = _; rw [HXA.out]; simp
          rw [hd2]
          clear hd2
          go_enter Tryz.func95, Tryz.ntmps95
          go_wp2_with fail
          go_end0
          exact ⟨rfl, ⟨_, H.out.put0 HL.out⟩, grown_set _ _ _ _⟩
      · have hd2 : dropL (x :: r) = x :: r := by
          cases r with
          | nil => rfl
          | cons y r => show (if x.alone = true then x :: y :: r else y :: r) = _; rw [HXA.out]; simp
        rw [hd2]
        clear hd2
        go_enter Tryz.func95, Tryz.ntmps95
        go_wp2_with fail
        go_end0
        exact ⟨rfl, ⟨_, H.out⟩, grown_refl _ _⟩

set_option maxHeartbeats 2000000 in
theorem implAlone {X : Nat → Prop} {S : Nat} {top : Option Addr} {s : TS} (w : World) (h : SIn w X S top s) (hlast : hasA s.st = true → ∃ y q, cutA s.st = y :: q) (h0 : 0 ≤ s.lost) (h1 : s.lost ≤ 1000) :
    Calls Tryz.prog 96 #[.pointer (some ⟨S, 0, none⟩)] w fun e w' => e = .returned (.tuple #[]) ∧ (∃ top', SIn w' X S top' (endT s)) ∧ w.grownBy w' (some S) := by
  obtain ⟨st, lost, skip⟩ := s
  have c0 := h.c0
  have c1 := h.c1
  have c2 := h.c2
  have f0 := h.fz 0
  have f1 := h.fz 1
  have f2 := h.fz 2
  simp only at c1 c2 h0 h1 hlast
  have H : Hid _ := h
  have HLA : Hid _ := hlast
  clear hlast
  by_cases hp : 0 < lost
  · rw [endI_lost hp]
    have hp1 : decide (lost > 0) = true := by simpa using hp
    clear h
    go_enter Tryz.func96, Tryz.ntmps96
    go_wp2_with fail
    refine bodyPost_ret (results_none rfl _ _ _) rfl ?_
    exact ⟨rfl, ⟨_, H.out.put1 (lost - 1)⟩, grown_set _ _ _ _⟩
  · have hp1 : decide (lost > 0) = false := by simpa using hp
    obtain ⟨R, hR⟩ : ∃ R, endT ⟨st, lost, skip⟩ = R := ⟨_, rfl⟩
    rw [hR]
    have HR : Hid _ := hR
    have HNP : Hid _ := hp
    clear h hR hp
    go_enter Tryz.func96, Tryz.ntmps96
    go_wp2_with fail
    go_loopg [2] st.length (fun g q wr => w = wr ∧ ∃ (p : Option Addr) (st' : List Tl), q = .pointer p ∧ Hid (Lk w X (.pointer p) st') ∧ st'.length ≤ g ∧ Hid (hasA st' = hasA st ∧ cutA st' = cutA st))
    case atStart => exact ⟨rfl, top, st, rfl, H.out.lk, Nat.le_refl _, rfl, rfl⟩
    case round =>
      obtain ⟨rfl, p, st', rfl, hl, hlen, hc⟩ := hrel
      cases st' with
      | nil =>
        have hn : p = none := by have := hl.out; simpa [Lk] using this
        subst hn
        go_wp2_with fail
        go_end0
        have : R = ⟨st, lost, skip⟩ := by
          rw [← HR.out]; exact endI_none HNP.out (by rw [← hc.out.1]; rfl)
        rw [this]
        exact ⟨rfl, ⟨_, H.out⟩, grown_refl _ _⟩
      | cons x r =>
        obtain ⟨b, nx, e, hb1, hb2, n0, n1, n2, n3, hlk⟩ := hl.out
        simp only [Value.pointer.injEq] at e
        subst e
        obtain ⟨xa, hxa⟩ : ∃ xa, x.alone = xa := ⟨_, rfl⟩
        rw [hxa] at n2
        have HXA : Hid _ := hxa
        have HL : Hid _ := hlk
        have hl1 : r.length + 1 ≤ gk := by simpa using hlen
        clear hlk hxa hlen
        cases xa
        · go_wp2_with fail
          go_roundg (gk - 1)
          case measure => omega
          case rel =>
            refine ⟨rfl, nx, r, rfl, HL.out, by omega, ?_, ?_⟩
            · rw [← hc.out.1]; simp only [hasA]; rw [HXA.out]; rfl
            · rw [← hc.out.2]; simp only [cutA]; rw [HXA.out]; simp
        · have e1 : cutA st = r := by rw [← hc.out.2]; simp only [cutA]; rw [HXA.out]; simp
          have e2 : hasA st = true := by rw [← hc.out.1]; simp only [hasA]; rw [HXA.out]; rfl
          have e3 : R = ⟨r, lost, 0⟩ := by rw [← HR.out, endI_some HNP.out e2, e1]
          obtain ⟨y, q, hyq⟩ := HLA.out e2
          rw [e1] at hyq
          subst hyq
          obtain ⟨b', nx', e', _⟩ := HL.out
          simp only [Value.pointer.injEq] at e'
          subst e'
          have E3 : Hid _ := e3
          have hbS : ¬ S = b := fun e => hb1 (by rw [← e]; exact H.out.isX)
          clear e1 e2 e3
          have H2 : Hid (SIn (w.setCell ⟨S, 2, none⟩ (.int .i64 0)) X S top ⟨st, lost, 0⟩) := H.out.put2 0
          have L2 : Hid (Lk (w.setCell ⟨S, 2, none⟩ (.int .i64 0)) X (.pointer (some ⟨b', 0, none⟩)) (y :: q)) := Lk.kept (by rw [World.size_setCell]; exact Nat.le_refl _) (fun c hx _ => heap_setCell_other w ⟨S, 2, none⟩ c _ (fun e => hx (by rw [e]; exact H.out.isX))) _ _ HL.out
          go_wp2_with fail
          go_end0
          rw [E3.out]
          exact ⟨rfl, ⟨_, H2.out.put0 L2.out⟩, grown_tr (grown_set _ _ _ _) (grown_set _ _ _ _)⟩
end Go.Proofs.YtgojdlbidjnmmabGreat
namespace Go.Proofs.YtgojdlbidjnmmabGreat
open Go.ChangeShapes Go.WideShapes Go.ChangeAt Go.RowKit
set_option linter.unusedSimpArgs false
set_option linter.unusedVariables false

/-- The number by which the side of what begins is told. -/
def dirOf (right : Bool) : Int := if right = true then 2 else 1
theorem up_dir (t : Int) (right : Bool) : upL t right = if ownOf (t + 1) = dirOf right then t + 1 else t + 1 + 1 := by
  rw [show t + 1 + 1 = t + 2 by omega]
  unfold upL ownOf dirOf
  cases right
  · by_cases h : t % 2 = 0
    · rw [if_neg (by simp [h]), if_neg (by rw [if_neg (by omega)]; simp)]
    · rw [if_pos (by simp [h]), if_pos (by rw [if_pos (by omega)]; simp)]
  · by_cases h : t % 2 = 0
    · rw [if_pos (by simp [h]), if_pos (by rw [if_neg (by omega)]; simp)]
    · rw [if_neg (by simp [h]), if_neg (by rw [if_pos (by omega)]; simp)]
theorem pushI_yes {st : List Tl} {lost skip : Int} {right : Bool} (side : Int) (alone : Bool) {u : Int} (hu : upL (topL st) right = u) (h1 : u ≤ 20) (h2 : lost = 0) (h3 : skip = 0) : pushT ⟨st, lost, skip⟩ right side alone = ⟨⟨u, side, alone⟩ :: st, lost, skip⟩ := by
  subst hu; unfold pushT; rw [if_pos ⟨h1, h2, h3⟩]
theorem pushI_no {st : List Tl} {lost skip : Int} {right : Bool} (side : Int) (alone : Bool) {u : Int} (hu : upL (topL st) right = u) (h : 20 < u ∨ lost ≠ 0 ∨ skip ≠ 0) : pushT ⟨st, lost, skip⟩ right side alone = if alone = true then ⟨st, lost + 1, skip⟩ else if lost = 0 then ⟨st, lost, skip + 1⟩ else ⟨st, lost, skip⟩ := by
  subst hu; unfold pushT; rw [if_neg (by show ¬ (upL (topL st) right ≤ 20 ∧ lost = 0 ∧ skip = 0); omega)]
theorem SIn.push {w w' : World} {X : Nat → Prop} {S b : Nat} {top : Option Addr} {st : List Tl} {lost skip : Int} {x : Tl} (h : SIn w' X S top ⟨st, lost, skip⟩) (hx : ¬ X b) (hb : b < w'.heap.size) (n0 : w'.cell? ⟨b, 0, none⟩ = some (.int .i64 x.level)) (n1 : w'.cell? ⟨b, 1, none⟩ = some (.int .i64 x.side)) (n2 : w'.cell? ⟨b, 2, none⟩ = some (.bool x.alone)) (n3 : w'.cell? ⟨b, 3, none⟩ = some (.pointer top)) :
    SIn (w'.setCell ⟨S, 0, none⟩ (.pointer (some ⟨b, 0, none⟩))) X S (some ⟨b, 0, none⟩) ⟨x :: st, lost, skip⟩ :=
  h.put0 ⟨b, top, rfl, hx, hb, n0, n1, n2, n3, h.lk⟩

set_option maxHeartbeats 4000000 in
theorem implPush {X : Nat → Prop} {S : Nat} {top : Option Addr} {s : TS} (w : World) (h : SIn w X S top s) (hne : ∃ x r, s.st = x :: r) (ht0 : 0 ≤ topL s.st) (ht1 : topL s.st ≤ 100) (hl0 : 0 ≤ s.lost) (hl1 : s.lost ≤ 1000) (hs0 : 0 ≤ s.skip) (hs1 : s.skip ≤ 1000) (right : Bool) (side : Int) (alone : Bool) (l0 : Int) (d : Int) (hd : d = dirOf right) :
    Calls Tryz.prog 94 #[.pointer (some ⟨S, 0, none⟩), .agg #[.int .i64 l0, .int .i64 side, .bool alone, .pointer none], .int .i64 d] w fun e w' => e = .returned (.tuple #[]) ∧ (∃ top', SIn w' X S top' (pushT s right side alone)) ∧ w.grownBy w' (some S) := by
  obtain ⟨st, lost, skip⟩ := s
  obtain ⟨x, r, hx⟩ := hne
  simp only at hx hl0 hl1 hs0 hs1 ht0 ht1 h
  subst hx
  have ht : topL (x :: r) = x.level := rfl
  rw [ht] at ht0 ht1
  obtain ⟨b, nx, e, hb1, hb2, n0, n1, n2, n3, hlk⟩ := h.lk
  simp only [Value.pointer.injEq] at e
  subst e
  obtain ⟨t, htt⟩ : ∃ t, x.level = t := ⟨_, rfl⟩
  rw [htt] at n0 ht0 ht1
  obtain ⟨u, hu⟩ : ∃ u, upL (topL (x :: r)) right = u := ⟨_, rfl⟩
  have hu2 := hu
  rw [ht, htt, up_dir, ← hd] at hu2
  have HU : Hid _ := hu
  have c0 := h.c0
  have c1 := h.c1
  have c2 := h.c2
  simp only at c1 c2
  have f0 := h.fz 0
  have f1 := h.fz 1
  have f2 := h.fz 2
  have hSl := h.lt
  have H : Hid _ := h
  have HD : Hid _ := hd
  have hsz : ¬ w.heap.size = S := by omega
  have hbz : ¬ w.heap.size = b := by omega
  obtain ⟨o, ho⟩ : ∃ o, ownOf (t + 1) = o := ⟨_, rfl⟩
  rw [ho] at hu2
  have HO : Hid _ := ho
  have hsz2 : ¬ S = w.heap.size := by omega
  have hbz2 : ¬ b = w.heap.size := by omega
  clear h hlk hu ht htt hd ho n1 n2 n3
  have hfin : ∀ P : Option Addr, SIn (w.alloc (.cells #[.int .i64 u, .int .i64 side, .bool alone, .pointer P] 70)) X S (some ⟨b, 0, none⟩) ⟨x :: r, lost, skip⟩ := fun P => H.out.below ((Below.refl _ _).alloc (Nat.le_refl _) _)
  have HF : Hid _ := hfin
  have finV : u ≤ 20 → lost = 0 → skip = 0 → Hid ((∃ top', SIn ((w.setCell ⟨S, 0, none⟩ (.pointer (some ⟨w.heap.size, 0, none⟩))).alloc (.cells #[.int .i64 u, .int .i64 side, .bool alone, .pointer (some ⟨b, 0, none⟩)] 70)) X S top' (pushT ⟨x :: r, lost, skip⟩ right side alone)) ∧ w.grownBy ((w.setCell ⟨S, 0, none⟩ (.pointer (some ⟨w.heap.size, 0, none⟩))).alloc (.cells #[.int .i64 u, .int .i64 side, .bool alone, .pointer (some ⟨b, 0, none⟩)] 70)) (some S)) := fun a1 a2 a3 => by
    unfold Hid
    rw [← World.setCell_alloc_past _ _ _ _ hSl, pushI_yes side alone HU.out a1 a2 a3]
    refine ⟨⟨_, SIn.push (x := ⟨u, side, alone⟩) (w := w) (HF.out _) (fun hx => by have := H.out.xlt _ hx; omega) (by simp) (by go_simp) (by go_simp) (by go_simp) (by go_simp)⟩, grown_tr (World.grownBy_alloc w _ _) (grown_set _ _ _ _)⟩
  have hno := fun hh => pushI_no (st := x :: r) (lost := lost) (skip := skip) (right := right) side alone HU.out hh
  have HNO : Hid _ := hno
  clear hno hfin
  have fin1 : (20 < u ∨ lost ≠ 0 ∨ skip ≠ 0) → alone = true → Hid ((∃ top', SIn ((w.setCell ⟨S, 1, none⟩ (.int .i64 (lost + 1))).alloc (.cells #[.int .i64 u, .int .i64 side, .bool alone, .pointer none] 70)) X S top' (pushT ⟨x :: r, lost, skip⟩ right side alone)) ∧ w.grownBy ((w.setCell ⟨S, 1, none⟩ (.int .i64 (lost + 1))).alloc (.cells #[.int .i64 u, .int .i64 side, .bool alone, .pointer none] 70)) (some S)) := fun hh ha => by
    unfold Hid
    rw [← World.setCell_alloc_past _ _ _ _ hSl, HNO.out hh, if_pos ha]
    exact ⟨⟨_, (HF.out none).put1 (lost + 1)⟩, grown_tr (World.grownBy_alloc w _ _) (grown_set _ _ _ _)⟩
  have fin2 : (20 < u ∨ lost ≠ 0 ∨ skip ≠ 0) → alone = false → lost = 0 → Hid ((∃ top', SIn ((w.setCell ⟨S, 2, none⟩ (.int .i64 (skip + 1))).alloc (.cells #[.int .i64 u, .int .i64 side, .bool alone, .pointer none] 70)) X S top' (pushT ⟨x :: r, lost, skip⟩ right side alone)) ∧ w.grownBy ((w.setCell ⟨S, 2, none⟩ (.int .i64 (skip + 1))).alloc (.cells #[.int .i64 u, .int .i64 side, .bool alone, .pointer none] 70)) (some S)) := fun hh ha h0 => by
    unfold Hid
    rw [← World.setCell_alloc_past _ _ _ _ hSl, HNO.out hh, if_neg (by rw [ha]; simp), if_pos h0]
    exact ⟨⟨_, (HF.out none).put2 (skip + 1)⟩, grown_tr (World.grownBy_alloc w _ _) (grown_set _ _ _ _)⟩
  have fin0 : (20 < u ∨ lost ≠ 0 ∨ skip ≠ 0) → alone = false → lost ≠ 0 → Hid ((∃ top', SIn (w.alloc (.cells #[.int .i64 u, .int .i64 side, .bool alone, .pointer none] 70)) X S top' (pushT ⟨x :: r, lost, skip⟩ right side alone)) ∧ w.grownBy (w.alloc (.cells #[.int .i64 u, .int .i64 side, .bool alone, .pointer none] 70)) (some S)) := fun hh ha h0 => by
    unfold Hid
    rw [HNO.out hh, if_neg (by rw [ha]; simp), if_neg h0]
    exact ⟨⟨_, HF.out none⟩, World.grownBy_alloc w _ _⟩
  have FV : Hid _ := finV
  have F1 : Hid _ := fin1
  have F2 : Hid _ := fin2
  have F0 : Hid _ := fin0
  clear finV fin1 fin2 fin0
  have key : (u ≤ 20 ∧ decide (u ≤ 20) = true ∧ lost = 0 ∧ (lost == 0) = true ∧ skip = 0 ∧ (skip == 0) = true) ∨ (20 < u ∧ decide (u ≤ 20) = false ∧ lost = 0 ∧ (lost == 0) = true) ∨ (20 < u ∧ decide (u ≤ 20) = false ∧ lost ≠ 0 ∧ (lost == 0) = false) ∨ (u ≤ 20 ∧ decide (u ≤ 20) = true ∧ lost ≠ 0 ∧ (lost == 0) = false) ∨ (u ≤ 20 ∧ decide (u ≤ 20) = true ∧ lost = 0 ∧ (lost == 0) = true ∧ skip ≠ 0 ∧ (skip == 0) = false) := by
    by_cases a : 20 < u
    · by_cases q : lost = 0
      · exact .inr (.inl ⟨a, by simpa using a, q, by simpa using q⟩)
      · exact .inr (.inr (.inl ⟨a, by simpa using a, q, by simpa using q⟩))
    · by_cases q : lost = 0
      · by_cases z : skip = 0
        · exact .inl ⟨by omega, by simp; omega, q, by simpa using q, z, by simpa using z⟩
        · exact .inr (.inr (.inr (.inr ⟨by omega, by simp; omega, q, by simpa using q, z, by simpa using z⟩)))
      · exact .inr (.inr (.inr (.inl ⟨by omega, by simp; omega, q, by simpa using q⟩)))
  by_cases hod : o = d
  · have ho1 : (o != d) = false := by simpa using hod
    rw [if_pos hod] at hu2
    subst hu2
    have HOD : Hid _ := hod
    clear hod
    rcases key with ⟨k1, k2, k3, k4, k5, k6⟩ | ⟨k1, k2, k3, k4⟩ | ⟨k1, k2, k3, k4⟩ | ⟨k1, k2, k3, k4⟩ | ⟨k1, k2, k3, k4, k5, k6⟩
    · have K3 : Hid _ := k3
      have K5 : Hid _ := k5
      clear k3 k5
      go_enter Tryz.func94, Tryz.ntmps94
      go_wp2_with (go_at_call 81; refine (implSideOf _ _ (by omega)).mono ?_; rintro e w1 ⟨rfl, rfl⟩; rw [HO.out])
      go_end0
      exact ⟨rfl, (FV.out k1 K3.out K5.out).out⟩
    · have K3 : Hid _ := k3
      clear k3
      cases alone
      · go_enter Tryz.func94, Tryz.ntmps94
        go_wp2_with (go_at_call 81; refine (implSideOf _ _ (by omega)).mono ?_; rintro e w1 ⟨rfl, rfl⟩; rw [HO.out])
        go_end0
        exact ⟨rfl, (F2.out (.inl k1) (by simp) K3.out).out⟩
      · go_enter Tryz.func94, Tryz.ntmps94
        go_wp2_with (go_at_call 81; refine (implSideOf _ _ (by omega)).mono ?_; rintro e w1 ⟨rfl, rfl⟩; rw [HO.out])
        go_end0
        exact ⟨rfl, (F1.out (.inl k1) (by simp)).out⟩
    · have K3 : Hid _ := k3
      clear k3
      cases alone
      · go_enter Tryz.func94, Tryz.ntmps94
        go_wp2_with (go_at_call 81; refine (implSideOf _ _ (by omega)).mono ?_; rintro e w1 ⟨rfl, rfl⟩; rw [HO.out])
        go_end0
        exact ⟨rfl, (F0.out (.inl k1) (by simp) K3.out).out⟩
      · go_enter Tryz.func94, Tryz.ntmps94
        go_wp2_with (go_at_call 81; refine (implSideOf _ _ (by omega)).mono ?_; rintro e w1 ⟨rfl, rfl⟩; rw [HO.out])
        go_end0
        exact ⟨rfl, (F1.out (.inl k1) (by simp)).out⟩
    · have K3 : Hid _ := k3
      clear k3
      cases alone
      · go_enter Tryz.func94, Tryz.ntmps94
        go_wp2_with (go_at_call 81; refine (implSideOf _ _ (by omega)).mono ?_; rintro e w1 ⟨rfl, rfl⟩; rw [HO.out])
        go_end0
        exact ⟨rfl, (F0.out (.inr (.inl K3.out)) (by simp) K3.out).out⟩
      · go_enter Tryz.func94, Tryz.ntmps94
        go_wp2_with (go_at_call 81; refine (implSideOf _ _ (by omega)).mono ?_; rintro e w1 ⟨rfl, rfl⟩; rw [HO.out])
        go_end0
        exact ⟨rfl, (F1.out (.inr (.inl K3.out)) (by simp)).out⟩
    · have K3 : Hid _ := k3
      have K5 : Hid _ := k5
      clear k3 k5
      cases alone
      · go_enter Tryz.func94, Tryz.ntmps94
        go_wp2_with (go_at_call 81; refine (implSideOf _ _ (by omega)).mono ?_; rintro e w1 ⟨rfl, rfl⟩; rw [HO.out])
        go_end0
        exact ⟨rfl, (F2.out (.inr (.inr K5.out)) (by simp) K3.out).out⟩
      · go_enter Tryz.func94, Tryz.ntmps94
        go_wp2_with (go_at_call 81; refine (implSideOf _ _ (by omega)).mono ?_; rintro e w1 ⟨rfl, rfl⟩; rw [HO.out])
        go_end0
        exact ⟨rfl, (F1.out (.inr (.inr K5.out)) (by simp)).out⟩
  · have ho1 : (o != d) = true := by simpa using hod
    rw [if_neg hod] at hu2
    subst hu2
    have HOD : Hid _ := hod
    clear hod
    rcases key with ⟨k1, k2, k3, k4, k5, k6⟩ | ⟨k1, k2, k3, k4⟩ | ⟨k1, k2, k3, k4⟩ | ⟨k1, k2, k3, k4⟩ | ⟨k1, k2, k3, k4, k5, k6⟩
    · have K3 : Hid _ := k3
      have K5 : Hid _ := k5
      clear k3 k5
      go_enter Tryz.func94, Tryz.ntmps94
      go_wp2_with (go_at_call 81; refine (implSideOf _ _ (by omega)).mono ?_; rintro e w1 ⟨rfl, rfl⟩; rw [HO.out])
      go_end0
      exact ⟨rfl, (FV.out k1 K3.out K5.out).out⟩
    · have K3 : Hid _ := k3
      clear k3
      cases alone
      · go_enter Tryz.func94, Tryz.ntmps94
        go_wp2_with (go_at_call 81; refine (implSideOf _ _ (by omega)).mono ?_; rintro e w1 ⟨rfl, rfl⟩; rw [HO.out])
        go_end0
        exact ⟨rfl, (F2.out (.inl k1) (by simp) K3.out).out⟩
      · go_enter Tryz.func94, Tryz.ntmps94
        go_wp2_with (go_at_call 81; refine (implSideOf _ _ (by omega)).mono ?_; rintro e w1 ⟨rfl, rfl⟩; rw [HO.out])
        go_end0
        exact ⟨rfl, (F1.out (.inl k1) (by simp)).out⟩
    · have K3 : Hid _ := k3
      clear k3
      cases alone
      · go_enter Tryz.func94, Tryz.ntmps94
        go_wp2_with (go_at_call 81; refine (implSideOf _ _ (by omega)).mono ?_; rintro e w1 ⟨rfl, rfl⟩; rw [HO.out])
        go_end0
        exact ⟨rfl, (F0.out (.inl k1) (by simp) K3.out).out⟩
      · go_enter Tryz.func94, Tryz.ntmps94
        go_wp2_with (go_at_call 81; refine (implSideOf _ _ (by omega)).mono ?_; rintro e w1 ⟨rfl, rfl⟩; rw [HO.out])
        go_end0
        exact ⟨rfl, (F1.out (.inl k1) (by simp)).out⟩
    · have K3 : Hid _ := k3
      clear k3
      cases alone
      · go_enter Tryz.func94, Tryz.ntmps94
        go_wp2_with (go_at_call 81; refine (implSideOf _ _ (by omega)).mono ?_; rintro e w1 ⟨rfl, rfl⟩; rw [HO.out])
        go_end0
        exact ⟨rfl, (F0.out (.inr (.inl K3.out)) (by simp) K3.out).out⟩
      · go_enter Tryz.func94, Tryz.ntmps94
        go_wp2_with (go_at_call 81; refine (implSideOf _ _ (by omega)).mono ?_; rintro e w1 ⟨rfl, rfl⟩; rw [HO.out])
        go_end0
        exact ⟨rfl, (F1.out (.inr (.inl K3.out)) (by simp)).out⟩
    · have K3 : Hid _ := k3
      have K5 : Hid _ := k5
      clear k3 k5
      cases alone
      · go_enter Tryz.func94, Tryz.ntmps94
        go_wp2_with (go_at_call 81; refine (implSideOf _ _ (by omega)).mono ?_; rintro e w1 ⟨rfl, rfl⟩; rw [HO.out])
        go_end0
        exact ⟨rfl, (F2.out (.inr (.inr K5.out)) (by simp) K3.out).out⟩
      · go_enter Tryz.func94, Tryz.ntmps94
        go_wp2_with (go_at_call 81; refine (implSideOf _ _ (by omega)).mono ?_; rintro e w1 ⟨rfl, rfl⟩; rw [HO.out])
        go_end0
        exact ⟨rfl, (F1.out (.inr (.inr K5.out)) (by simp)).out⟩
end Go.Proofs.YtgojdlbidjnmmabGreat
