import Derived.Maps.AppendAt
import Derived.Test.YtgojdlbidjnmmabGreatPk2
import Derived.Test.YtgojdlbidjnmmabGreatPk4
import Derived.Test.YtgojdlbidjnmmabGreatPk1
import Derived.Test.YtgojdlbidjnmmabGreatPk3
namespace Go.Proofs.YtgojdlbidjnmmabGreat
set_option linter.unusedSimpArgs false
set_option linter.unusedVariables false

/-- What letters, their levels and mates are, up to n. -/
structure Txt (c lv : Nat → Int) (n : Nat) (mt : Nat → Nat) : Prop where
  mates : MateFn c n mt
  win : ∀ i, i < n → opensB (c i) = true → mt i < n → WinAt c lv i (mt i)

section
variable {c lv : Nat → Int} {n : Nat} {mt : Nat → Nat}
/-- What goes on with a piece. -/
def scN (c lv : Nat → Int) (n : Nat) (mt : Nat → Nat) (b : Nat) : Option Nat :=
  if opensB (c (lastP lv b n)) = true ∧ mt (lastP lv b n) < n then some (mt (lastP lv b n)) else none
def chainF (c lv : Nat → Int) (n : Nat) (mt : Nat → Nat) : Nat → Nat → List Nat
  | 0, b => pieceN lv b n
  | f + 1, b => pieceN lv b n ++ (match scN c lv n mt b with | some j => chainF c lv n mt f j | none => [])
def chainN (c lv : Nat → Int) (n : Nat) (mt : Nat → Nat) (b : Nat) : List Nat := chainF c lv n mt n b
/-- It ends something that is read by itself. -/
def closN (c : Nat → Int) (mt : Nat → Nat) (b : Nat) : Bool := (List.range b).any fun i => opensB (c i) && mt i == b
def startN (c lv : Nat → Int) (mt : Nat → Nat) (b : Nat) : Bool := begB lv b && !(decide (c b = 22) && closN c mt b)
def runsTo (c lv : Nat → Int) (n : Nat) (mt : Nat → Nat) (k : Nat) : List (List Nat) := ((List.range k).filter (startN c lv mt)).map (chainN c lv n mt)

theorem sc_some (ht : Txt c lv n mt) {b j : Nat} (hb : begB lv b = true) (hbn : b < n) (h : scN c lv n mt b = some j) :
    opensB (c (lastP lv b n)) = true ∧ mt (lastP lv b n) = j ∧ j < n ∧ begB lv j = true ∧ b < j ∧ MateIs c (lastP lv b n) j ∧ c j = 22 ∧ closN c mt j = true := by
  unfold scN at h
  split at h
  · rename_i hc
    simp only [Option.some.injEq] at h
    obtain ⟨a1, a2, a3⟩ := last_spec hb hbn
    have hm : MateIs c (lastP lv b n) (mt (lastP lv b n)) := by
      rcases ht.mates _ a2 hc.1 with ⟨q, _⟩ | ⟨q, _⟩
      · exact q
      · omega
    have hlt := hm.lt
    have hle := of_le a1
    have hw := ht.win _ a2 hc.1 hc.2
    refine ⟨hc.1, h, by omega, ?_, by omega, by rw [← h]; exact hm, by rw [← h]; exact (mate_class hm).1, ?_⟩
    · rw [← h]; exact mate_beg hw hlt hc.2 rfl hb hbn
    · unfold closN
      rw [List.any_eq_true]
      exact ⟨lastP lv b n, by rw [List.mem_range]; omega, by simp [hc.1, h]⟩
  · cases h
theorem chainF_more (ht : Txt c lv n mt) : ∀ d e b, begB lv b = true → b < n → n - b ≤ d → n - b ≤ e → chainF c lv n mt d b = chainF c lv n mt e b := by
  intro d
  induction d with
  | zero => intro e b hb hbn h1 h2; omega
  | succ d ih =>
    intro e b hb hbn h1 h2
    cases e with
    | zero => omega
    | succ e =>
      simp only [chainF]
      cases hs : scN c lv n mt b with
      | none => rfl
      | some j =>
        obtain ⟨_, _, hj, hbj, hlt, _⟩ := sc_some ht hb hbn hs
        simp only
        rw [ih e j hbj hj (by omega) (by omega)]
theorem chain_eq (ht : Txt c lv n mt) {b : Nat} (hb : begB lv b = true) (hbn : b < n) :
    chainN c lv n mt b = pieceN lv b n ++ (match scN c lv n mt b with | some j => chainN c lv n mt j | none => []) := by
  unfold chainN
  obtain ⟨d, hd⟩ : ∃ d, n = d + 1 := ⟨n - 1, by omega⟩
  rw [show chainF c lv n mt n b = chainF c lv n mt (d + 1) b by rw [← hd]]
  simp only [chainF]
  cases hs : scN c lv n mt b with
  | none => rfl
  | some j =>
    obtain ⟨_, _, hj, hbj, hlt, _⟩ := sc_some ht hb hbn hs
    simp only
    rw [chainF_more ht d n j hbj hj (by omega) (by omega)]

theorem piece_succ (lv : Nat → Int) (b k : Nat) : pieceN lv b (k + 1) = pieceN lv b k ++ (if ofB lv b k = true then [k] else []) := by
  unfold pieceN
  rw [List.range_succ, List.filter_append]
  congr 1
  simp only [List.filter_cons, List.filter_nil]
/-- The first of a piece. -/
theorem piece_at (lv : Nat → Int) {b : Nat} (hb : begB lv b = true) : pieceN lv b b = [] := by
  unfold pieceN
  rw [List.filter_eq_nil_iff]
  intro x hx h
  rw [List.mem_range] at hx
  have := of_le h; omega
theorem piece_more {lv : Nat → Int} {b k m : Nat} (h : k ≤ m) (hno : ∀ x, k ≤ x → x < m → ofB lv b x = false) : pieceN lv b m = pieceN lv b k := by
  induction m with
  | zero => have : k = 0 := by omega
            subst this; rfl
  | succ m ih =>
    by_cases e : k = m + 1
    · subst e; rfl
    · rw [piece_succ, hno m (by omega) (by omega), ih (by omega) (fun x a b => hno x a (by omega))]; simp
theorem piece_last {lv : Nat → Int} {b : Nat} (hb : begB lv b = true) : ∀ k, b < k → ∃ p, pieceN lv b k = p ++ [lastP lv b k] := by
  intro k
  induction k with
  | zero => intro h; omega
  | succ k ih =>
    intro h
    rw [piece_succ]
    simp only [lastP]
    by_cases ho : ofB lv b k = true
    · rw [if_pos ho, if_pos ho]; exact ⟨_, rfl⟩
    · rw [if_neg ho, if_neg ho, List.append_nil]
      by_cases e : b = k
      · subst e; exact absurd (of_b hb) ho
      · exact ih (by omega)
theorem piece_mem {lv : Nat → Int} {b k x : Nat} : x ∈ pieceN lv b k ↔ x < k ∧ ofB lv b x = true := by
  unfold pieceN; rw [List.mem_filter, List.mem_range]
theorem piece_ne {lv : Nat → Int} {b n : Nat} (hb : begB lv b = true) (hbn : b < n) : pieceN lv b n ≠ [] := by
  obtain ⟨p, hp⟩ := piece_last hb n hbn
  rw [hp]; simp
theorem piece_head {lv : Nat → Int} {b n : Nat} (hb : begB lv b = true) (hbn : b < n) : ∃ r, pieceN lv b n = b :: r := by
  have h1 : pieceN lv b (b + 1) = [b] := by rw [piece_succ, piece_at lv hb, if_pos (of_b hb)]; rfl
  have : ∀ d, ∃ r, pieceN lv b (b + 1 + d) = b :: r := by
    intro d
    induction d with
    | zero => exact ⟨[], h1⟩
    | succ d ih =>
      obtain ⟨r, hr⟩ := ih
      refine ⟨r ++ (if ofB lv b (b + 1 + d) = true then [b + 1 + d] else []), ?_⟩
      show pieceN lv b (b + 1 + d + 1) = _
      rw [piece_succ, hr]; rfl
  obtain ⟨r, hr⟩ := this (n - (b + 1))
  rw [show b + 1 + (n - (b + 1)) = n by omega] at hr
  exact ⟨r, hr⟩
/-- Pieces lie one behind the other: what has a level up to the last one of a piece is of it. -/
theorem piece_full {lv : Nat → Int} {b n x : Nat} (hb : begB lv b = true) (hbn : b < n) (h1 : b ≤ x) (h2 : x ≤ lastP lv b n) (hs : 0 ≤ lv x) : ofB lv b x = true := by
  obtain ⟨a1, _, _⟩ := last_spec hb hbn
  have e := (of_seen a1).2
  have m1 := bg_mono (lv := lv) (show b + 1 ≤ x + 1 by omega)
  have m2 := bg_mono (lv := lv) (show x + 1 ≤ lastP lv b n + 1 by omega)
  rw [bg_beg hb] at m1
  exact of_mk hs (by omega)
/-- Behind a piece the next one with a level begins another one. -/
theorem next_beg {lv : Nat → Int} {b n k : Nat} (hb : begB lv b = true) (hbn : b < n) (h1 : lastP lv b n < k) (h2 : k < n) (hno : ∀ x, lastP lv b n < x → x < k → lv x < 0) (hs : 0 ≤ lv k) : begB lv k = true := by
  obtain ⟨a1, a2, a3⟩ := last_spec hb hbn
  cases h : begB lv k with
  | true => rfl
  | false =>
    exfalso
    have hbg : ∀ d, lastP lv b n + 1 + d ≤ k → bgL lv (lastP lv b n + 1 + d) = b := by
      intro d
      induction d with
      | zero => intro _; exact (of_seen a1).2
      | succ d ih =>
        intro hd
        show bgL lv (lastP lv b n + 1 + d + 1) = b
        rw [bg_stay (bg_unseen (hno _ (by omega) (by omega)))]
        exact ih (by omega)
    have := hbg (k - (lastP lv b n + 1)) (by omega)
    rw [show lastP lv b n + 1 + (k - (lastP lv b n + 1)) = k by omega] at this
    have := a3 k h1 h2
    rw [of_mk hs (by rw [bg_stay h]; assumption)] at this
    cases this
theorem runs_more {k m : Nat} (h : k ≤ m) (hno : ∀ x, k ≤ x → x < m → startN c lv mt x = false) : runsTo c lv n mt m = runsTo c lv n mt k := by
  unfold runsTo
  congr 1
  induction m with
  | zero => have : k = 0 := by omega
            subst this; rfl
  | succ m ih =>
    by_cases e : k = m + 1
    · subst e; rfl
    · rw [List.range_succ, List.filter_append, ih (by omega) (fun x a b => hno x a (by omega))]
      simp [hno m (by omega) (by omega)]
theorem runs_succ (k : Nat) : runsTo c lv n mt (k + 1) = runsTo c lv n mt k ++ (if startN c lv mt k = true then [chainN c lv n mt k] else []) := by
  unfold runsTo
  rw [List.range_succ, List.filter_append, List.map_append]
  congr 1
  by_cases h : startN c lv mt k = true
  · rw [if_pos h]; simp [h]
  · rw [if_neg h]; simp [h]
theorem start_beg {x : Nat} (h : startN c lv mt x = true) : begB lv x = true := by
  unfold startN at h; rw [Bool.and_eq_true] at h; exact h.1
theorem no_start {x : Nat} (h : begB lv x = false) : startN c lv mt x = false := by unfold startN; rw [h]; rfl
/-- Within a piece, behind its beginning, none begins; nor where nothing has a level. -/
theorem no_beg_in {b n x : Nat} (hb : begB lv b = true) (hbn : b < n) (h1 : b < x) (h2 : x ≤ lastP lv b n) : begB lv x = false := by
  cases h : begB lv x with
  | false => rfl
  | true =>
    have := piece_full hb hbn (by omega) h2 (beg_seen h)
    have := (of_seen this).2
    rw [bg_beg h] at this; omega
end
end Go.Proofs.YtgojdlbidjnmmabGreat
namespace Go.Proofs.YtgojdlbidjnmmabGreat
open Go.ChangeShapes Go.WideShapes Go.ChangeAt Go.RowKit
set_option linter.unusedSimpArgs false

/-- A slice that owns its elements, k cells each, T their type. -/
def OwnV (T : TypeId) (k : Nat) (w : World) (B : Nat) (v : Value) (n : Nat) (xs : List Value) : Prop := w.ownsRow B T k v n xs
section
variable {T : TypeId} {k : Nat} {w w' : World} {B n : Nat} {v u : Value} {xs : List Value}
theorem OwnV.len (h : OwnV T k w B v n xs) : xs.length = n * k := h.1
theorem OwnV.lt (h : OwnV T k w B v n xs) : ∀ b, v.ownBlock = some b → B ≤ b ∧ b < w.heap.size := World.ownsRow.lt h
theorem OwnV.kept (h : OwnV T k w B v n xs) (hb : ∀ b, v.ownBlock = some b → w'.heap[b]? = w.heap[b]?) : OwnV T k w' B v n xs := by
  refine ⟨h.1, ?_⟩
  rcases h.2 with h | ⟨g, cap, cur, rfl, h2, h3, h4⟩
  · exact .inl h
  · exact .inr ⟨g, cap, cur, rfl, h2, (hb g rfl).trans h3, h4⟩
theorem OwnV.below (h : OwnV T k w B v n xs) (hb : Below w.heap.size w w') : OwnV T k w' B v n xs :=
  h.kept fun b hk => hb.block b (h.lt b hk).2
theorem OwnV.mono {B' : Nat} (h : OwnV T k w B v n xs) (hB : B' ≤ B) : OwnV T k w B' v n xs := by
  refine ⟨h.1, ?_⟩
  rcases h.2 with h | ⟨g, cap, cur, h1, h2, h3⟩
  · exact .inl h
  · exact .inr ⟨g, cap, cur, h1, Nat.le_trans hB h2, h3⟩
theorem OwnV.nil (T : TypeId) (k : Nat) (w : World) (B : Nat) : OwnV T k w B (.slice none 0 0) 0 [] := World.ownsRow_nil w B _ k
theorem OwnV.empty (T T' : TypeId) (k : Nat) (w : World) (B : Nat) (h : B ≤ w.heap.size) (hT : T' = T) : OwnV T k (w.alloc (.cells #[] T')) B (.slice (some ⟨w.heap.size, 0, none⟩) 0 0) 0 [] := by
  subst hT
  exact World.ownsRow_made w #[] 0 h (by unfold maxLen; omega) (by simp)
theorem OwnV.lit (T T' : TypeId) (k : Nat) (w : World) (B n : Nat) (cs : Array Value) (h : B ≤ w.heap.size) (hm : n ≤ maxLen) (hs : cs.size = n * k) (hT : T' = T) : OwnV T k (w.alloc (.cells cs T')) B (.slice (some ⟨w.heap.size, 0, none⟩) n n) n cs.toList := by
  subst hT
  exact World.ownsRow_lit w cs n h hm hs
theorem OwnV.forms (h : OwnV T k w B v n xs) :
    (v = .slice none 0 0 ∧ n = 0) ∨ ∃ g cap, v = .slice (some ⟨g, 0, none⟩) n cap ∧ B ≤ g ∧ g < w.heap.size ∧ n ≤ cap ∧ cap ≤ maxLen := by
  rcases h.2 with ⟨h1, h2⟩ | ⟨g, cap, cur, h1, h2, h3, h4, h5, h6, h7⟩
  · exact .inl ⟨h1, h2⟩
  · exact .inr ⟨g, cap, h1, h2, (Array.getElem?_eq_some_iff.1 h3).1, h4, h5⟩
theorem OwnV.slc (h : OwnV T k w B v n xs) : ∃ a cap, v = .slice a n cap := by
  rcases h.forms with ⟨rfl, rfl⟩ | ⟨g, cap, rfl, _⟩
  · exact ⟨_, _, rfl⟩
  · exact ⟨_, _, rfl⟩
theorem OwnV.form1 (h : OwnV T k w B v n xs) (hn : 0 < n) : ∃ g cap, v = .slice (some ⟨g, 0, none⟩) n cap ∧ B ≤ g ∧ g < w.heap.size ∧ n ≤ cap ∧ cap ≤ maxLen := by
  rcases h.forms with ⟨_, e⟩ | h
  · omega
  · exact h
theorem OwnV.cell {g cap : Nat} (h : OwnV T k w B (.slice (some ⟨g, 0, none⟩) n cap) n xs) (j : Nat) (hj : j < n * k) : w.cell? ⟨g, j, none⟩ = xs[j]? :=
  World.ownsRow.cellAt h j hj
theorem OwnV.frozen {g cap : Nat} (h : OwnV T k w B (.slice (some ⟨g, 0, none⟩) n cap) n xs) (j : Nat) : w.frozen? ⟨g, j, none⟩ = false :=
  World.ownsRow.frozenAt h j
theorem OwnV.stored {g cap : Nat} (h : OwnV T k w B (.slice (some ⟨g, 0, none⟩) n cap) n xs) (j : Nat) (x : Value) : OwnV T k (w.setCell ⟨g, j, none⟩ x) B (.slice (some ⟨g, 0, none⟩) n cap) n (xs.set j x) :=
  (World.ownsRow.stored h j x).1
theorem OwnV.head {g cap : Nat} (h : OwnV T k w B (.slice (some ⟨g, 0, none⟩) n cap) n xs) (m : Nat) (hm : m ≤ n) : OwnV T k w B (.slice (some ⟨g, 0, none⟩) m cap) m (xs.take (m * k)) := by
  have e := h.len
  have hmk : m * k ≤ n * k := Nat.mul_le_mul_right k hm
  refine ⟨by rw [List.length_take]; omega, ?_⟩
  rcases h.2 with ⟨h1, _⟩ | ⟨g', cap', cur, h1, h2, h3, h4, h5, h6, h7⟩
  · cases h1
  · simp only [Value.slice.injEq, Option.some.injEq, Addr.mk.injEq] at h1
    obtain ⟨⟨rfl, _⟩, _, rfl⟩ := h1
    refine .inr ⟨g, cap, cur, rfl, h2, h3, by omega, h5, h6, ?_⟩
    rw [← h7, List.take_take]
    congr 1; omega
theorem OwnV.drewN (h : OwnV T k w B v n xs) (m : Nat) : OwnV T k (w.drewN m) B v n xs := h
theorem OwnV.alloc (h : OwnV T k w B v n xs) (o : Obj) : OwnV T k (w.alloc o) B v n xs := World.ownsRow.alloc h o
theorem OwnV.setOther {b j : Nat} {x : Value} (h : OwnV T k w B v n xs) (hne : v.ownBlock ≠ some b) : OwnV T k (w.setCell ⟨b, j, none⟩ x) B v n xs :=
  h.kept fun c hc => heap_setCell_other w ⟨b, j, none⟩ c x (fun e => hne (by rw [hc, e]))
end

/-- What is known of a type of k cells. -/
def RowT (T : TypeId) (k b : Nat) : Prop := (Tryz.prog.info? T).map (fun i => (i.size, i.bytes)) = some (k, b) ∧ ((Tryz.prog.info? T).bind (fun i => i.zero)).map (fun z => z.cells.size) = some k

/-- 'out = append(out, x)': the element has been laid in a block of its own first. -/
theorem own_appendV {ops : Array Oper} {rest : List Oper} {o : Oper} {a : Act} {Q : Exit → Act → World → Prop} {wr : World} {T TS T' : TypeId} {k b : Nat} {v : Value} {xs : List Value} {B n : Nat} {cs : Array Value} {H : Nat} (s x : Operand) (hH : wr.heap.size = H) (hT : RowT T k b) (hTS : Tryz.prog.underlying TS = some (.slice T)) (hown : OwnV T k wr B v n xs) (hl : n ≤ 1048576) (hB : B ≤ wr.heap.size) (hk0 : 0 < k) (hb : b ≤ 1024)
    (hcs : cs.size = k) (hone : ∀ u ∈ cs.toList, u.oneCell' = true)
    (hgd : o.guard = none) (ho : o.op = .call { callee := .builtin .append, args := #[s, x], argTypes := #[TS, TS] }) (hs : a.eval s = v)
    (hx : a.eval x = .slice (some ⟨H, 0, none⟩) 1 1)
    (h : ∀ v' w', OwnV T k w' B v' (n + 1) (xs ++ cs.toList) → wr.grownBy w' v.ownBlock → (v'.ownBlock = v.ownBlock ∨ v'.ownBlock = some (wr.heap.size + 1)) → wpList Tryz.prog ops Q rest (a.put o.dst v') w') :
    wpList Tryz.prog ops Q (o :: rest) a (wr.alloc (.cells cs T')) := by
  subst hH
  obtain ⟨i0, hi, hz1, hz2⟩ : ∃ i, Tryz.prog.info? T = some i ∧ i.size = k ∧ i.bytes = b := by
    have := hT.1
    cases hh : Tryz.prog.info? T with
    | none => rw [hh] at this; cases this
    | some i => rw [hh] at this; simp at this; exact ⟨i, rfl, this⟩
  obtain ⟨z, hz0, hzc⟩ : ∃ z, i0.zero = some z ∧ z.cells.size = k := by
    have := hT.2
    rw [hi] at this
    cases hh : i0.zero with
    | none => simp [hh] at this
    | some z => simp [hh] at this; exact ⟨z, rfl, this⟩
  refine wpList_append_own_at _ hgd s x TS ho B T i0 z k b hTS hi hz0 hz1 hz2 hzc (by omega) v n xs hs (World.ownsRow.alloc hown _) ⟨wr.heap.size, 0, none⟩ 1 1 cs.toList hx (by simp [hcs]) ?_ hone ?_ ?_ ?_ ?_
  · intro j u hj
    have hadd : (⟨wr.heap.size, 0, none⟩ : Addr).add j = ⟨wr.heap.size, j, none⟩ := by unfold Addr.add; split <;> simp_all
    rw [hadd, cell_of_row _ wr.heap.size j cs T' (0, 0) (heap_alloc_new wr _)]
    simpa using hj
  · unfold maxLen; omega
  · have : (n + 1) * b ≤ 1048577 * 1024 := Nat.mul_le_mul (by omega) hb
    omega
  · simp; omega
  · intro v' w' h1 h2 _ h3
    refine h v' w' h1 ?_ (by simpa using h3)
    refine ⟨h2.os, h2.tape, h2.output, ?_, fun c hc hne => ?_⟩
    · have := h2.size; simp at this; omega
    · rw [h2.block c (by simp; omega) hne]; exact Below.heap_alloc wr _ c hc
end Go.Proofs.YtgojdlbidjnmmabGreat
namespace Go.Proofs.YtgojdlbidjnmmabGreat
open Go.ChangeShapes Go.WideShapes Go.ChangeAt Go.RowKit
set_option linter.unusedSimpArgs false

/-- As own_append, and where the new row lies. -/
theorem own_append_at {ops : Array Oper} {rest : List Oper} {o : Oper} {a : Act} {Q : Exit → Act → World → Prop} {wr : World} {T : TypeId} {v : Value} {l : List Int} {B : Nat} {xv : Int} (s x : Operand) (hown : OwnI wr B v l) (hl : l.length ≤ 1073741824) (hB : B ≤ wr.heap.size)
    (hgd : o.guard = none) (ho : o.op = .call { callee := .builtin .append, args := #[s, x], argTypes := #[22, 22] }) (hs : a.eval s = v) 
    (hx : a.eval x = .slice (some ⟨wr.heap.size, 0, none⟩) 1 1)
    (h : ∀ v' w', OwnI w' B v' (l ++ [xv]) → wr.grownBy w' v.ownBlock → (v'.ownBlock = v.ownBlock ∨ v'.ownBlock = some (wr.heap.size + 1)) → wpList Tryz.prog ops Q rest (a.put o.dst v') w') :
    wpList Tryz.prog ops Q (o :: rest) a (wr.alloc (.cells #[.int .i64 xv] T)) := by
  obtain ⟨i0, hi, hz0, hz1, hz2⟩ := info_parts infoI
  refine wpList_append_own_at _ hgd s x 22 ho B 3 i0 (.int .i64 0) 1 8 Tryz.underlying22 hi hz0 hz1 hz2 rfl (by decide) v l.length (l.map (Value.int .i64)) hs (World.ownsRow.alloc hown _) ⟨wr.heap.size, 0, none⟩ 1 1 [.int .i64 xv] hx rfl ?_ ?_ ?_ ?_ ?_ ?_
  · intro j u hj
    match j, hj with
    | 0, hj => simp at hj; subst hj; simp [Addr.add]
  · intro u hu; simp at hu; subst hu; rfl
  · unfold maxLen; omega
  · omega
  · simp; omega
  · intro v' w' h1 h2 _ h3
    refine h v' w' ?_ ?_ ?_
    · unfold OwnI; rw [List.length_append, List.map_append]; exact h1
    · refine ⟨h2.os, h2.tape, h2.output, ?_, fun k hk hne => ?_⟩
      · have := h2.size; simp at this; omega
      · rw [h2.block k (by simp; omega) hne]; exact Below.heap_alloc wr _ k hk
    · simpa using h3

/-- Two rows that lie apart. -/
def Apart (v u : Value) : Prop := ∀ k, v.ownBlock = some k → u.ownBlock ≠ some k
theorem Apart.symm {v u : Value} (h : Apart v u) : Apart u v := fun k hk e => h k e hk
theorem Apart.next {w : World} {v v' u : Value} {B : Nat} {l : List Int} (h : Apart v u) (hu : OwnI w B u l) (h3 : v'.ownBlock = v.ownBlock ∨ v'.ownBlock = some (w.heap.size + 1)) : Apart v' u := by
  intro k hk e
  rcases h3 with h3 | h3
  · exact h k (by rw [← h3]; exact hk) e
  · rw [hk] at h3; have := (hu.lt k e).2; simp at h3; omega
theorem OwnI.apart {w w' : World} {v u : Value} {l : List Int} {B : Nat} (h : OwnI w B v l) (hg : w.grownBy w' u.ownBlock) (ha : Apart u v) : OwnI w' B v l :=
  h.kept fun k hk => hg.block k (h.lt k hk).2 (fun e => ha k e.symm hk)
end Go.Proofs.YtgojdlbidjnmmabGreat
namespace Go.Proofs.YtgojdlbidjnmmabGreat
open Go.ChangeShapes Go.WideShapes Go.ChangeAt Go.RowKit
set_option linter.unusedSimpArgs false
set_option linter.unusedVariables false

theorem OwnI.form1 {w : World} {B : Nat} {v : Value} {l : List Int} (h : OwnI w B v l) (hl : l ≠ []) : ∃ g cap, v = .slice (some ⟨g, 0, none⟩) l.length cap ∧ l.length ≤ cap := by
  rcases h.forms with ⟨_, e⟩ | ⟨g, cap, e, _, _, e2, _⟩
  · exact absurd e hl
  · exact ⟨g, cap, e, e2⟩
/-- The slice at a place of a list of them. -/
def vN (vs : List Value) (j : Nat) : Value := vs.getD j (.slice none 0 0)
def rN (rows : List (List Int)) (j : Nat) : List Int := rows.getD j []
theorem vN_left {vs us : List Value} {j : Nat} (h : j < vs.length) : vN (vs ++ us) j = vN vs j := by simp [vN, List.getD, List.getElem?_append_left h]
theorem vN_last (vs : List Value) (u : Value) : vN (vs ++ [u]) vs.length = u := by simp [vN]
theorem rN_left {vs us : List (List Int)} {j : Nat} (h : j < vs.length) : rN (vs ++ us) j = rN vs j := by simp [rN, List.getD, List.getElem?_append_left h]
theorem rN_last (vs : List (List Int)) (u : List Int) : rN (vs ++ [u]) vs.length = u := by simp [rN]
/-- A slice that owns rows of numbers, none over another one. -/
structure RR (w : World) (B : Nat) (v : Value) (vs : List Value) (rows : List (List Int)) : Prop where
  len : vs.length = rows.length
  own : OwnV 22 1 w B v rows.length vs
  row : ∀ j, j < rows.length → OwnI w B (vN vs j) (rN rows j)
  apv : ∀ j, j < rows.length → Apart v (vN vs j)
  app : ∀ i j, i < j → j < rows.length → Apart (vN vs i) (vN vs j)
section
variable {w w' : World} {B : Nat} {v : Value} {vs : List Value} {rows : List (List Int)}
theorem RR.kept (h : RR w B v vs rows) (hb : ∀ b, (v.ownBlock = some b ∨ ∃ j, j < rows.length ∧ (vN vs j).ownBlock = some b) → w'.heap[b]? = w.heap[b]?) : RR w' B v vs rows :=
  ⟨h.len, h.own.kept (fun b hk => hb b (.inl hk)), fun j hj => (h.row j hj).kept (fun b hk => hb b (.inr ⟨j, hj, hk⟩)), h.apv, h.app⟩
theorem RR.below (h : RR w B v vs rows) (hb : Below w.heap.size w w') : RR w' B v vs rows :=
  ⟨h.len, h.own.below hb, fun j hj => (h.row j hj).below hb, h.apv, h.app⟩
theorem RR.nil (w : World) (B : Nat) : RR w B (.slice none 0 0) [] [] := ⟨rfl, OwnV.nil _ _ _ _, fun j hj => by simp at hj, fun j hj => by simp at hj, fun i j _ hj => by simp at hj⟩
theorem RR.empty (w : World) (B : Nat) (T : TypeId) (h : B ≤ w.heap.size) (hT : T = 22) : RR (w.alloc (.cells #[] T)) B (.slice (some ⟨w.heap.size, 0, none⟩) 0 0) [] [] :=
  ⟨rfl, OwnV.empty _ _ _ _ _ h hT, fun j hj => by simp at hj, fun j hj => by simp at hj, fun i j _ hj => by simp at hj⟩
theorem RR.slc (h : RR w B v vs rows) : ∃ a cap, v = .slice a rows.length cap := h.own.slc
theorem RR.lt (h : RR w B v vs rows) : ∀ b, v.ownBlock = some b → B ≤ b ∧ b < w.heap.size := h.own.lt
/-- A new row, behind all others. -/
theorem RR.snoc {w2 : World} {vx v' : Value} {x : List Int} (h : RR w B v vs rows) (hB : B ≤ w.heap.size) (hb : Below w.heap.size w w2) (hx : OwnI w2 w.heap.size vx x) (ho : OwnV 22 1 w' B v' (rows.length + 1) (vs ++ [vx])) (hg : w2.grownBy w' v.ownBlock) (hv : v'.ownBlock = v.ownBlock ∨ v'.ownBlock = some (w2.heap.size + 1)) :
    RR w' B v' (vs ++ [vx]) (rows ++ [x]) := by
  have hsz := hb.size
  have hrow : ∀ j, j < rows.length → OwnI w' B (vN vs j) (rN rows j) := fun j hj => ((h.row j hj).below hb).kept (fun b hk => hg.block b (Nat.lt_of_lt_of_le ((h.row j hj).lt b hk).2 hsz) (fun e => h.apv j hj b e.symm hk))
  have hx' : OwnI w' B vx x := (hx.mono hB).kept (fun b hk => hg.block b (hx.lt b hk).2 (fun e => by have := (h.lt b e.symm).2; have := (hx.lt b hk).1; omega))
  have hl := h.len
  refine ⟨by simp [hl], by simpa using ho, fun j hj => ?_, fun j hj => ?_, fun i j hij hj => ?_⟩
  · by_cases e : j = rows.length
    · subst e; rw [rN_last, ← hl, vN_last]; exact hx'
    · simp at hj
      rw [rN_left (by omega), vN_left (by omega)]; exact hrow j (by omega)
  · simp at hj
    by_cases e : j = rows.length
    · subst e; rw [← hl, vN_last]
      intro b h1 h2
      rcases hv with q | q
      · rw [q] at h1; have := (h.lt b h1).2; have := (hx.lt b h2).1; omega
      · rw [q] at h1; simp at h1; have := (hx.lt b h2).2; omega
    · rw [vN_left (by omega)]
      intro b h1 h2
      rcases hv with q | q
      · exact h.apv j (by omega) b (by rw [← q]; exact h1) h2
      · rw [q] at h1; simp at h1; have := ((h.row j (by omega)).lt b h2).2; omega
  · simp at hj
    by_cases e : j = rows.length
    · subst e
      rw [vN_left (by omega), ← hl, vN_last]
      intro b h1 h2
      have := ((h.row i (by omega)).lt b h1).2; have := (hx.lt b h2).1; omega
    · rw [vN_left (by omega), vN_left (by omega)]; exact h.app i j hij (by omega)
end
/-- .. its rows wherever they lie. -/
def RRX (w : World) (B : Nat) (v : Value) (rows : List (List Int)) : Prop := ∃ vs, RR w B v vs rows
theorem RRX.below {w w' : World} {B : Nat} {v : Value} {rows : List (List Int)} (h : RRX w B v rows) (hb : Below w.heap.size w w') : RRX w' B v rows := by
  obtain ⟨vs, h⟩ := h; exact ⟨vs, h.below hb⟩
theorem RRX.slc {w : World} {B : Nat} {v : Value} {rows : List (List Int)} (h : RRX w B v rows) : ∃ a cap, v = .slice a rows.length cap := by
  obtain ⟨vs, h⟩ := h; exact h.slc
theorem rowSS : RowT 22 1 24 := ⟨by kernel_rfl, by kernel_rfl⟩
/-- Places as numbers. -/
def natL (l : List Nat) : List Int := l.map fun (x : Nat) => (x : Int)
theorem natL_len (l : List Nat) : (natL l).length = l.length := by simp [natL]
theorem natL_app (l m : List Nat) : natL (l ++ m) = natL l ++ natL m := by simp [natL]
theorem fn_natL {l : List Nat} {j : Nat} (h : j < l.length) : fn (natL l) j = ((l[j] : Nat) : Int) := by simp [fn, natL, h]
theorem fn_natL_last (p : List Nat) (x : Nat) : fn (natL (p ++ [x])) p.length = (x : Int) := by simp [fn, natL]
def natR (r : List (List Nat)) : List (List Int) := r.map natL
theorem natR_app (r s : List (List Nat)) : natR (r ++ s) = natR r ++ natR s := by simp [natR]
theorem natR_len (r : List (List Nat)) : (natR r).length = r.length := by simp [natR]
end Go.Proofs.YtgojdlbidjnmmabGreat
