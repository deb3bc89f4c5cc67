import Derived.Test.YtkdmfjnaajedhaaRows
import Derived.WalkKit
import Derived.ProofKit
import Derived.OpenShut
import Derived.Below
import Derived.Handy
import Derived.OneCell
import Derived.WalkSmall
import Derived.Deep.QuietTactic
import Derived.BigQuiet
import Derived.Test.YtkdmfjnaajedhaaMg1
namespace Go.Proofs.Ytkdmfjnaajedhaa
open Go.RowKit
set_option linter.unusedSimpArgs false

theorem retInt {k : IntKind} {a b : Int} (h : a = b) : Ending.returned (.int k a) = .returned (.int k b) := by rw [h]
theorem retBool {a b : Bool} (h : a = b) : Ending.returned (.bool a) = .returned (.bool b) := by rw [h]

/-- The number at a place of a list. -/
def fn (l : List Int) (j : Nat) : Int := l.getD j 0
theorem fn_get {l : List Int} {j : Nat} (h : j < l.length) : fn l j = l[j] := by simp [fn, h]
theorem fn_take {l : List Int} {n j : Nat} (h : j < n) : fn (l.take n) j = fn l j := by simp [fn, h, List.getD]
theorem fn_append_left {l r : List Int} {j : Nat} (h : j < l.length) : fn (l ++ r) j = fn l j := by simp [fn, List.getD, List.getElem?_append_left h]
theorem ext_fn {l r : List Int} (h : l.length = r.length) (e : ∀ j, j < l.length → fn l j = fn r j) : l = r := by
  apply List.ext_getElem h
  intro j h1 h2
  have := e j h1
  rwa [fn_get h1, fn_get h2] at this

/-- A row of numbers lies in memory. -/
def At (w : World) (b off : Nat) (l : List Int) : Prop := ∀ j, j < l.length → w.cell? ⟨b, off + j, none⟩ = some (.int .i64 (fn l j))
/-- A slice whose numbers can be read. -/
def Arg (w : World) (v : Value) (l : List Int) : Prop :=
  (∃ a cap, v = .slice a 0 cap ∧ l = []) ∨ ∃ b off cap, v = .slice (some ⟨b, off, none⟩) l.length cap ∧ b < w.heap.size ∧ l.length ≤ cap ∧ cap ≤ maxLen ∧ At w b off l
/-- A slice that owns its numbers: a row of its own, from block B on. -/
def OwnI (w : World) (B : Nat) (v : Value) (l : List Int) : Prop := w.ownsRow B 3 1 v l.length (l.map (Value.int .i64))

theorem At.below {w w' : World} {b off : Nat} {l : List Int} {B : Nat} (h : At w b off l) (hb : Below B w w') (hB : b < B) : At w' b off l :=
  fun j hj => (hb.cell (p := ⟨b, off + j, none⟩) hB).trans (h j hj)
theorem Arg.below {w w' : World} {v : Value} {l : List Int} (h : Arg w v l) (hb : Below w.heap.size w w') : Arg w' v l := by
  rcases h with h | ⟨b, off, cap, rfl, h1, h2, h3, h4⟩
  · exact .inl h
  · exact .inr ⟨b, off, cap, rfl, Nat.lt_of_lt_of_le h1 hb.size, h2, h3, h4.below hb h1⟩
theorem Arg.drewN {w : World} {v : Value} {l : List Int} (h : Arg w v l) (n : Nat) : Arg (w.drewN n) v l :=
  h.below ⟨rfl, rfl, rfl, Nat.le_refl _, fun _ _ => rfl⟩
theorem below_draws (w : World) (n : Nat) : Below w.heap.size w (w.drewN n) := ⟨rfl, rfl, rfl, Nat.le_refl _, fun _ _ => rfl⟩
theorem bstep {w a b : World} (h : Below w.heap.size w a) (k : Below a.heap.size a b) : Below w.heap.size w b := h.trans (k.mono h.size)
theorem OwnI.drewN {w : World} {v : Value} {l : List Int} {B : Nat} (h : OwnI w B v l) (n : Nat) : OwnI (w.drewN n) B v l := h
theorem OwnI.mono {w : World} {v : Value} {l : List Int} {B B' : Nat} (h : OwnI w B v l) (hB : B' ≤ B) : OwnI w B' v l := by
  refine ⟨h.1, ?_⟩
  rcases h.2 with h | ⟨g, cap, cur, h1, h2, h3⟩
  · exact .inl h
  · exact .inr ⟨g, cap, cur, h1, Nat.le_trans hB h2, h3⟩
theorem OwnI.nil (w : World) (B : Nat) : OwnI w B (.slice none 0 0) [] := World.ownsRow_nil w B _ 1
theorem OwnI.forms {w : World} {v : Value} {l : List Int} {B : Nat} (h : OwnI w B v l) :
    (v = .slice none 0 0 ∧ l = []) ∨ ∃ g cap, v = .slice (some ⟨g, 0, none⟩) l.length cap ∧ B ≤ g ∧ g < w.heap.size ∧ l.length ≤ cap ∧ cap ≤ maxLen ∧ At w g 0 l := by
  rcases h.2 with ⟨h1, h2⟩ | ⟨g, cap, cur, h1, h2, h3, h4, h5, h6, h7⟩
  · exact .inl ⟨h1, List.eq_nil_of_length_eq_zero h2⟩
  · refine .inr ⟨g, cap, h1, h2, (Array.getElem?_eq_some_iff.1 h3).1, h4, h5, fun j hj => ?_⟩
    subst h1
    have := World.ownsRow.cellAt h j (by omega)
    rw [Nat.zero_add, this]
    simp [fn_get hj, hj]
theorem OwnI.arg {w : World} {v : Value} {l : List Int} {B : Nat} (h : OwnI w B v l) : Arg w v l := by
  rcases h.forms with h | ⟨g, cap, h1, _, h2, h3, h4, h5⟩
  · exact .inl ⟨none, 0, h⟩
  · exact .inr ⟨g, 0, cap, h1, h2, h3, h4, h5⟩
theorem OwnI.below {w w' : World} {v : Value} {l : List Int} {B : Nat} (h : OwnI w B v l) (hb : Below w.heap.size w w') : OwnI w' B v l := by
  refine ⟨h.1, ?_⟩
  rcases h.2 with h | ⟨g, cap, cur, h1, h2, h3, h4⟩
  · exact .inl h
  · exact .inr ⟨g, cap, cur, h1, h2, (hb.block g (Array.getElem?_eq_some_iff.1 h3).1).trans h3, h4⟩
/-- What is kept where only blocks other than the row's own turn. -/
theorem OwnI.kept {w w' : World} {v : Value} {l : List Int} {B : Nat} (h : OwnI w B v l) (hb : ∀ k, v.ownBlock = some k → w'.heap[k]? = w.heap[k]?) : OwnI w' B v l := by
  refine ⟨h.1, ?_⟩
  rcases h.2 with h | ⟨g, cap, cur, rfl, h2, h3, h4⟩
  · exact .inl h
  · exact .inr ⟨g, cap, cur, rfl, h2, (hb g rfl).trans h3, h4⟩
theorem OwnI.lt {w : World} {v : Value} {l : List Int} {B : Nat} (h : OwnI w B v l) : ∀ k, v.ownBlock = some k → B ≤ k ∧ k < w.heap.size := World.ownsRow.lt h
theorem OwnI.frozen {w : World} {g cap : Nat} {l : List Int} {B : Nat} (h : OwnI w B (.slice (some ⟨g, 0, none⟩) l.length cap) l) (j : Nat) : w.frozen? ⟨g, j, none⟩ = false :=
  World.ownsRow.frozenAt h j
theorem OwnI.stored {w : World} {g cap : Nat} {l : List Int} {B : Nat} (h : OwnI w B (.slice (some ⟨g, 0, none⟩) l.length cap) l) (j : Nat) (x : Int) :
    OwnI (w.setCell ⟨g, j, none⟩ (.int .i64 x)) B (.slice (some ⟨g, 0, none⟩) l.length cap) (l.set j x) := by
  have := (World.ownsRow.stored h j (.int .i64 x)).1
  unfold OwnI
  rw [List.length_set, List.map_set]
  exact this
theorem OwnI.len {w : World} {a : Addr} {n cap : Nat} {l : List Int} {B : Nat} (h : OwnI w B (.slice (some a) n cap) l) : l.length = n := by
  rcases h.2 with ⟨h1, _⟩ | ⟨g, c, cur, h1, _⟩
  · cases h1
  · simp only [Value.slice.injEq] at h1; exact h1.2.1.symm
theorem OwnI.frozenN {w : World} {g n cap : Nat} {l : List Int} {B : Nat} (h : OwnI w B (.slice (some ⟨g, 0, none⟩) n cap) l) (j : Nat) : w.frozen? ⟨g, j, none⟩ = false := by
  have e := h.len
  subst e
  exact h.frozen j
theorem OwnI.cellN {w : World} {g n cap : Nat} {l : List Int} {B : Nat} (h : OwnI w B (.slice (some ⟨g, 0, none⟩) n cap) l) (j : Nat) (hj : j < n) : w.cell? ⟨g, j, none⟩ = some (.int .i64 (fn l j)) := by
  have e := h.len
  subst e
  rcases h.forms with ⟨h, _⟩ | ⟨g', c', h1, _, _, _, _, h2⟩
  · cases h
  · simp only [Value.slice.injEq, Option.some.injEq, Addr.mk.injEq] at h1
    obtain ⟨⟨rfl, _⟩, _⟩ := h1
    have := h2 j hj
    rwa [Nat.zero_add] at this
theorem OwnI.storedN {w : World} {g n cap : Nat} {l : List Int} {B : Nat} (h : OwnI w B (.slice (some ⟨g, 0, none⟩) n cap) l) (j : Nat) (x : Int) :
    OwnI (w.setCell ⟨g, j, none⟩ (.int .i64 x)) B (.slice (some ⟨g, 0, none⟩) n cap) (l.set j x) := by
  have e := h.len
  subst e
  exact h.stored j x
theorem fn_set_same {l : List Int} {j : Nat} {x : Int} (h : j < l.length) : fn (l.set j x) j = x := by simp [fn, h]
theorem fn_set_other {l : List Int} {i j : Nat} {x : Int} (h : i ≠ j) : fn (l.set i x) j = fn l j := by simp [fn, List.getD, List.getElem?_set_ne h]
theorem Below.setOwn {w W : World} {g j : Nat} {x : Value} {B : Nat} (hb : Below B W w) (h : B ≤ g) : Below B W (w.setCell ⟨g, j, none⟩ x) := hb.setCell h _
/-- What came in as a row of numbers can be read. -/
theorem arg_of_row {w : World} {a : Option Addr} {len cap : Nat} {zs : List Int}
    (h : (a = none ∧ len = 0 ∧ cap = 0 ∧ zs = []) ∨ ∃ x, a = some x ∧ len ≤ cap ∧ cap ≤ maxLen ∧ zs.length = cap ∧ (∀ i, i < zs.length → w.cell? (x.add i) = some (.int .i64 (zs.getD i 0))) ∧ ∀ n ∈ zs, (Lit.int .i64 n).wf = true) :
    Arg w (.slice a len cap) (zs.take len) ∧ (zs.take len).length = len := by
  rcases h with ⟨rfl, rfl, rfl, rfl⟩ | ⟨x, rfl, h1, h2, h3, h4, _⟩
  · exact ⟨.inl ⟨_, _, rfl, rfl⟩, rfl⟩
  · have hlen : (zs.take len).length = len := by rw [List.length_take]; omega
    refine ⟨?_, hlen⟩
    by_cases h0 : len = 0
    · subst h0; exact .inl ⟨_, _, rfl, by simp⟩
    · obtain ⟨b, off, spot⟩ := x
      have hc := h4 0 (by omega)
      have hspot : spot = none := by simpa [Addr.add] using World.cell?_spot hc
      subst hspot
      have hb := World.block_lt_of_cell? _ _ hc
      refine .inr ⟨b, off, cap, by rw [hlen], ?_, by omega, h2, fun j hj => ?_⟩
      · simpa [Addr.add] using hb
      · have := h4 j (by omega)
        have hadd : (⟨b, off, none⟩ : Addr).add j = ⟨b, off + j, none⟩ := by unfold Addr.add; split <;> simp_all
        rw [hadd] at this
        rw [fn_take (by omega)]
        exact this
end Go.Proofs.Ytkdmfjnaajedhaa
namespace Go.Proofs.Ytkdmfjnaajedhaa
set_option linter.unusedSimpArgs false

def cl (l : List Int) (j : Nat) : Int := bidi (fn l j)
def opensB (c : Int) : Bool := decide (19 ≤ c ∧ c ≤ 21)
/-- How much deeper a class leads. -/
def del (c : Int) : Int := if opensB c = true then 1 else if c = 22 then -1 else 0
/-- How deep it is behind so many, from a place on. -/
def dp (c : Nat → Int) (i : Nat) : Nat → Int
  | 0 => 0
  | m + 1 => dp c i m + del (c (i + m))
theorem dp_succ (c : Nat → Int) (i m : Nat) : dp c i (m + 1) = dp c i m + del (c (i + m)) := rfl
/-- The mate of what opens at a place. -/
structure MateIs (c : Nat → Int) (i j : Nat) : Prop where
  lt : i < j
  zero : dp c i (j + 1 - i) = 0
  pos : ∀ m, 1 ≤ m → m ≤ j - i → 1 ≤ dp c i m
theorem mate_unique {c : Nat → Int} {i j k : Nat} (h : MateIs c i j) (h2 : MateIs c i k) : j = k := by
  rcases Nat.lt_trichotomy j k with a | a | a
  · have := h2.pos (j + 1 - i) (by have := h.lt; omega) (by omega); have := h.zero; omega
  · exact a
  · have := h.pos (k + 1 - i) (by have := h2.lt; omega) (by omega); have := h2.zero; omega
/-- None closes it. -/
def NoMate (c : Nat → Int) (n i : Nat) : Prop := ∀ m, 1 ≤ m → m ≤ n - i → 1 ≤ dp c i m
/-- The function that tells mates: the place of the mate, or n. -/
def MateFn (c : Nat → Int) (n : Nat) (mt : Nat → Nat) : Prop :=
  ∀ i, i < n → opensB (c i) = true → (MateIs c i (mt i) ∧ mt i < n) ∨ (mt i = n ∧ NoMate c n i)

/-- By the stack: which are open ahead of a place. -/
structure Stack (c : Nat → Int) (k : Nat) (S : List Int) : Prop where
  lt : ∀ t, t < S.length → 0 ≤ fn S t ∧ fn S t < (k : Int) ∧ opensB (c (fn S t).toNat) = true
  deep : ∀ t, t < S.length → dp c (fn S t).toNat (k - (fn S t).toNat) = (S.length : Int) - t
  pos : ∀ t, t < S.length → ∀ m, 1 ≤ m → m ≤ k - (fn S t).toNat → 1 ≤ dp c (fn S t).toNat m

/-- What the list of mates says of a place below k. -/
def MatesTo (c : Nat → Int) (k : Nat) (S M : List Int) : Prop :=
  ∀ i, i < k → opensB (c i) = true → ((∃ j, j < k ∧ MateIs c i j ∧ fn M i = (j : Int)) ∨ (fn M i = -1 ∧ ∃ t, t < S.length ∧ fn S t = (i : Int)))
/-- Of what closes: where what it closes opens; -1 if it closes nothing. -/
def ClosTo (c : Nat → Int) (k : Nat) (M : List Int) : Prop :=
  ∀ j, j < k → opensB (c j) = false → ((∃ i, i < j ∧ opensB (c i) = true ∧ MateIs c i j ∧ fn M j = (i : Int)) ∨ (fn M j = -1 ∧ ∀ i, i < j → opensB (c i) = true → ¬ MateIs c i j))

theorem stack_zero (c : Nat → Int) : Stack c 0 [] := ⟨by simp, by simp, by simp⟩
theorem fn_snoc_last (S : List Int) (x : Int) : fn (S ++ [x]) S.length = x := by simp [fn]
theorem stack_push {c : Nat → Int} {k : Nat} {S : List Int} (h : Stack c k S) (ho : opensB (c k) = true) : Stack c (k + 1) (S ++ [(k : Int)]) := by
  have hd : del (c k) = 1 := by simp [del, ho]
  have old : ∀ t, t < S.length → dp c (fn S t).toNat (k + 1 - (fn S t).toNat) = dp c (fn S t).toNat (k - (fn S t).toNat) + 1 := by
    intro t ht
    have h1 := (h.lt t ht).1; have h2 := (h.lt t ht).2.1
    rw [show k + 1 - (fn S t).toNat = k - (fn S t).toNat + 1 by omega, dp_succ, show (fn S t).toNat + (k - (fn S t).toNat) = k by omega, hd]
  refine ⟨fun t ht => ?_, fun t ht => ?_, fun t ht m h1 h2 => ?_⟩ <;> simp only [List.length_append, List.length_singleton] at ht ⊢
  · by_cases e : t = S.length
    · subst e; rw [fn_snoc_last]; simp [ho]; omega
    · rw [fn_append_left (by omega)]; have := h.lt t (by omega); exact ⟨this.1, by omega, this.2.2⟩
  · by_cases e : t = S.length
    · subst e; rw [fn_snoc_last]
      rw [show ((k : Int)).toNat = k by omega, show k + 1 - k = 1 by omega]
      simp [dp, hd]; omega
    · rw [fn_append_left (by omega), old t (by omega), h.deep t (by omega)]; omega
  · by_cases e : t = S.length
    · subst e
      rw [fn_snoc_last] at h2 ⊢
      rw [show ((k : Int)).toNat = k by omega] at h2 ⊢
      have : m = 1 := by omega
      subst this; simp [dp, hd]
    · rw [fn_append_left (by omega)] at h2 ⊢
      by_cases e2 : m ≤ k - (fn S t).toNat
      · exact h.pos t (by omega) m h1 e2
      · have h3 := (h.lt t (by omega)).1; have h4 := (h.lt t (by omega)).2.1
        rw [show m = k + 1 - (fn S t).toNat by omega, old t (by omega), h.deep t (by omega)]; omega
theorem stack_stay {c : Nat → Int} {k : Nat} {S : List Int} (h : Stack c k S) (hd : del (c k) = 0 ∨ S = []) : Stack c (k + 1) S := by
  rcases hd with hd | rfl
  · have old : ∀ t, t < S.length → dp c (fn S t).toNat (k + 1 - (fn S t).toNat) = dp c (fn S t).toNat (k - (fn S t).toNat) := by
      intro t ht
      have h1 := (h.lt t ht).1; have h2 := (h.lt t ht).2.1
      rw [show k + 1 - (fn S t).toNat = k - (fn S t).toNat + 1 by omega, dp_succ, show (fn S t).toNat + (k - (fn S t).toNat) = k by omega, hd]; omega
    refine ⟨fun t ht => ?_, fun t ht => ?_, fun t ht m h1 h2 => ?_⟩
    · have := h.lt t ht; exact ⟨this.1, by omega, this.2.2⟩
    · rw [old t ht, h.deep t ht]
    · by_cases e2 : m ≤ k - (fn S t).toNat
      · exact h.pos t ht m h1 e2
      · have h3 := (h.lt t ht).1; have h4 := (h.lt t ht).2.1
        rw [show m = k + 1 - (fn S t).toNat by omega, old t ht, h.deep t ht]; omega
  · exact ⟨by simp, by simp, by simp⟩
/-- A closing one: the last one goes, and its mate is here. -/
theorem stack_pop {c : Nat → Int} {k q : Nat} {S : List Int} (h : Stack c k S) (hq : S.length = q + 1) (hc : c k = 22) :
    Stack c (k + 1) (S.take q) ∧ MateIs c (fn S q).toNat k := by
  have hd : del (c k) = -1 := by rw [hc]; decide
  have old : ∀ t, t < S.length → dp c (fn S t).toNat (k + 1 - (fn S t).toNat) = dp c (fn S t).toNat (k - (fn S t).toNat) - 1 := by
    intro t ht
    have h1 := (h.lt t ht).1; have h2 := (h.lt t ht).2.1
    rw [show k + 1 - (fn S t).toNat = k - (fn S t).toNat + 1 by omega, dp_succ, show (fn S t).toNat + (k - (fn S t).toNat) = k by omega, hd]; omega
  have hl : (S.take q).length = q := by rw [List.length_take]; omega
  refine ⟨⟨fun t ht => ?_, fun t ht => ?_, fun t ht m h1 h2 => ?_⟩, ?_, ?_, ?_⟩
  · rw [hl] at ht; rw [fn_take ht]; have := h.lt t (by omega); exact ⟨this.1, by omega, this.2.2⟩
  · rw [hl] at ht ⊢; rw [fn_take ht, old t (by omega), h.deep t (by omega)]; omega
  · rw [hl] at ht; rw [fn_take ht] at h2 ⊢
    by_cases e2 : m ≤ k - (fn S t).toNat
    · exact h.pos t (by omega) m h1 e2
    · have h3 := (h.lt t (by omega)).1; have h4 := (h.lt t (by omega)).2.1
      rw [show m = k + 1 - (fn S t).toNat by omega, old t (by omega), h.deep t (by omega)]; omega
  · have := h.lt q (by omega); omega
  · rw [old q (by omega), h.deep q (by omega)]; omega
  · intro m h1 h2; exact h.pos q (by omega) m h1 h2

/-- At the end: what the list of mates says. -/
theorem mates_end {c : Nat → Int} {n : Nat} {S M : List Int} (hs : Stack c n S) (hm : MatesTo c n S M) (i : Nat) (hi : i < n) (ho : opensB (c i) = true) :
    (∃ j, j < n ∧ MateIs c i j ∧ fn M i = (j : Int)) ∨ (fn M i = -1 ∧ NoMate c n i) := by
  rcases hm i hi ho with h | ⟨h, t, ht, e⟩
  · exact .inl h
  · refine .inr ⟨h, fun m h1 h2 => ?_⟩
    have := hs.pos t ht m h1 (by rw [e]; simpa using h2)
    rwa [e, show ((i : Int)).toNat = i by omega] at this
end Go.Proofs.Ytkdmfjnaajedhaa
namespace Go.Proofs.Ytkdmfjnaajedhaa
set_option linter.unusedSimpArgs false

/-- What is told at a moment: a level, a side that counts for all, 0 for none, and whether it is read by itself. -/
structure Tl where
  level : Int
  side : Int
  alone : Bool
/-- The levels that are open, the last one first, and how many could not be pushed. -/
structure TS where
  st : List Tl
  lost : Int
  skip : Int

def topL (s : List Tl) : Int := match s with | [] => 0 | x :: _ => x.level
def topS (s : List Tl) : Int := match s with | [] => 0 | x :: _ => x.side
def topA (s : List Tl) : Bool := match s with | [] => false | x :: _ => x.alone
def upL (lv : Int) (right : Bool) : Int := if right = decide (lv % 2 = 0) then lv + 1 else lv + 2
def pushT (s : TS) (right : Bool) (side : Int) (alone : Bool) : TS :=
  if upL (topL s.st) right ≤ 20 ∧ s.lost = 0 ∧ s.skip = 0 then ⟨⟨upL (topL s.st) right, side, alone⟩ :: s.st, s.lost, s.skip⟩
  else if alone = true then ⟨s.st, s.lost + 1, s.skip⟩
  else if s.lost = 0 then ⟨s.st, s.lost, s.skip + 1⟩ else s
def hasA : List Tl → Bool
  | [] => false
  | x :: r => x.alone || hasA r
def cutA : List Tl → List Tl
  | [] => []
  | x :: r => if x.alone = true then r else cutA r
def endT (s : TS) : TS :=
  if 0 < s.lost then ⟨s.st, s.lost - 1, s.skip⟩ else if hasA s.st = true then ⟨cutA s.st, s.lost, 0⟩ else s
def dropL (s : List Tl) : List Tl := match s with
  | x :: y :: r => if x.alone = true then x :: y :: r else y :: r
  | r => r
def dropT (s : TS) : TS :=
  if 0 < s.lost then s else if 0 < s.skip then ⟨s.st, s.lost, s.skip - 1⟩ else ⟨dropL s.st, s.lost, s.skip⟩
def rightT (c fsi : Int) : Bool := decide (c = 20 ∨ (c = 21 ∧ fsi = 1))
def stepT (c fsi : Int) (s : TS) : TS :=
  if opensB c = true then pushT s (rightT c fsi) 0 true
  else if c = 22 then endT s
  else if c = 16 then dropT s
  else if c = 14 then pushT s false 0 false
  else if c = 15 then pushT s true 0 false
  else if c = 17 then pushT s false 1 false
  else if c = 18 then pushT s true 2 false
  else s
def tellsB (c : Int) : Bool := decide (c = 10 ∨ (14 ≤ c ∧ c ≤ 18))
def atT (c : Int) (s : TS) : TS := if c = 22 then endT s else s
def lvT (c : Int) (s : TS) : Int := if tellsB c = true then -1 else topL (atT c s).st
/-- The class of a letter: the side that counts for all, if there is one. -/
def sdT (s : List Tl) (c : Int) : Int := if topS s ≠ 0 then topS s else c
def clT (c : Int) (s : TS) : Int := if tellsB c = true then 0 else sdT (atT c s).st c
def told (c fs : Nat → Int) (base : Int) : Nat → TS
  | 0 => ⟨[⟨base, 0, false⟩], 0, 0⟩
  | k + 1 => stepT (c k) (fs k) (told c fs base k)
def lvAt (c fs : Nat → Int) (base : Int) (k : Nat) : Int := lvT (c k) (told c fs base k)
def clAt (c fs : Nat → Int) (base : Int) (k : Nat) : Int := clT (c k) (told c fs base k)

def lvSet (c : Int) (s : TS) (lv : List Int) (i : Nat) : List Int := if tellsB c = true then lv else lv.set i (topL (atT c s).st)
def clSet (c : Int) (s : TS) (cls : List Int) (i : Nat) : List Int := if tellsB c = true then cls else cls.set i (sdT (atT c s).st c)
/-- Levels that ascend, from what was at first. -/
structure GoodS (base : Int) (k : Nat) (s : TS) : Prop where
  last : ∃ r, s.st = r ++ [⟨base, 0, false⟩]
  srt : s.st.Pairwise (fun x y => y.level < x.level)
  le : ∀ x ∈ s.st, base ≤ x.level ∧ x.level ≤ 20
  lost0 : 0 ≤ s.lost
  lostk : s.lost ≤ k
  skip0 : 0 ≤ s.skip
  skipk : s.skip ≤ k
  len : s.st.length ≤ k + 1

theorem upL_bd (lv : Int) (r : Bool) : lv + 1 ≤ upL lv r ∧ upL lv r ≤ lv + 2 := by unfold upL; split <;> omega
theorem good_ne {base : Int} {k : Nat} {s : TS} (h : GoodS base k s) : ∃ x r, s.st = x :: r := by
  obtain ⟨r, hr⟩ := h.last
  cases r with
  | nil => exact ⟨_, _, hr⟩
  | cons x r => exact ⟨_, _, hr⟩
theorem good_mono {base : Int} {k k' : Nat} {s : TS} (h : GoodS base k s) (hk : k ≤ k') : GoodS base k' s :=
  ⟨h.last, h.srt, h.le, h.lost0, by have := h.lostk; omega, h.skip0, by have := h.skipk; omega, by have := h.len; omega⟩
theorem good_zero {base : Int} (hb : 0 ≤ base ∧ base ≤ 1) : GoodS base 0 ⟨[⟨base, 0, false⟩], 0, 0⟩ :=
  ⟨⟨[], rfl⟩, by simp, by simp; omega, by simp, by simp, by simp, by simp, by simp⟩
theorem good_push {base : Int} {k : Nat} {s : TS} (h : GoodS base k s) (right : Bool) (side : Int) (alone : Bool) : GoodS base (k + 1) (pushT s right side alone) := by
  unfold pushT
  obtain ⟨x, r, hx⟩ := good_ne h
  have l0 := h.lost0; have lk := h.lostk; have s0 := h.skip0; have sk := h.skipk
  split
  · rename_i hc
    have hu := upL_bd (topL s.st) right
    have ht : topL s.st = x.level := by rw [hx]; rfl
    have hbx := (h.le x (by rw [hx]; simp)).1
    refine ⟨?_, ?_, ?_, by simpa using l0, by show s.lost ≤ _; omega, s0, by show s.skip ≤ _; omega, by have := h.len; simp; omega⟩
    · obtain ⟨q, hq⟩ := h.last; exact ⟨_ :: q, by rw [hq]; rfl⟩
    · refine List.Pairwise.cons ?_ h.srt
      intro y hy
      have hs := h.srt
      rw [hx] at hs hy
      have : y.level ≤ x.level := by
        rcases List.mem_cons.1 hy with e | e
        · rw [e]; exact Int.le_refl _
        · exact Int.le_of_lt ((List.pairwise_cons.1 hs).1 y e)
      show y.level < upL _ _
      omega
    · intro y hy
      rcases List.mem_cons.1 hy with e | e
      · subst e; show base ≤ upL _ _ ∧ upL _ _ ≤ 20; omega
      · exact h.le y e
  · split
    · exact ⟨h.last, h.srt, h.le, by show 0 ≤ s.lost + 1; omega, by show s.lost + 1 ≤ _; omega, s0, by show s.skip ≤ _; omega, by have := h.len; show s.st.length ≤ _; omega⟩
    · split
      · exact ⟨h.last, h.srt, h.le, l0, by show s.lost ≤ _; omega, by show 0 ≤ s.skip + 1; omega, by show s.skip + 1 ≤ _; omega, by have := h.len; show s.st.length ≤ _; omega⟩
      · exact good_mono h (by omega)
theorem cutA_suffix (l : List Tl) : ∃ p, l = p ++ cutA l := by
  induction l with
  | nil => exact ⟨[], rfl⟩
  | cons x r ih =>
    simp only [cutA]
    split
    · exact ⟨[x], rfl⟩
    · obtain ⟨p, hp⟩ := ih; exact ⟨x :: p, by rw [List.cons_append, ← hp]⟩
theorem cutA_last {base : Int} {r l : List Tl} (h : l = r ++ [⟨base, 0, false⟩]) (ha : hasA l = true) : ∃ r', cutA l = r' ++ [⟨base, 0, false⟩] := by
  induction l generalizing r with
  | nil => simp at h
  | cons x t ih =>
    cases r with
    | nil =>
      simp at h; obtain ⟨rfl, rfl⟩ := h
      simp [hasA] at ha
    | cons y r =>
      simp at h; obtain ⟨rfl, h⟩ := h
      simp only [cutA]
      split
      · exact ⟨r, h⟩
      · rename_i hx
        refine ih h ?_
        simp only [hasA, Bool.or_eq_true] at ha
        rcases ha with ha | ha
        · exact absurd ha hx
        · exact ha
theorem good_end {base : Int} {k : Nat} {s : TS} (h : GoodS base k s) : GoodS base k (endT s) := by
  unfold endT
  have l0 := h.lost0; have lk := h.lostk; have s0 := h.skip0; have sk := h.skipk
  split
  · exact ⟨h.last, h.srt, h.le, by show 0 ≤ s.lost - 1; omega, by show s.lost - 1 ≤ _; omega, s0, sk, h.len⟩
  · split
    · rename_i ha
      obtain ⟨p, hp⟩ := cutA_suffix s.st
      obtain ⟨r, hr⟩ := h.last
      have hs := h.srt
      rw [hp, List.pairwise_append] at hs
      refine ⟨cutA_last hr ha, hs.2.1, fun x hx => h.le x (by rw [hp]; exact List.mem_append_right _ hx), l0, lk, by simp, by show (0 : Int) ≤ _; omega, ?_⟩
      have := h.len
      rw [hp, List.length_append] at this
      show (cutA s.st).length ≤ _; omega
    · exact h
theorem dropL_cases (l : List Tl) : dropL l = l ∨ ∃ x y r, l = x :: y :: r ∧ x.alone = false ∧ dropL l = y :: r := by
  match l with
  | [] => exact .inl rfl
  | [x] => exact .inl rfl
  | x :: y :: r =>
    simp only [dropL]
    split
    · exact .inl rfl
    · rename_i h; exact .inr ⟨x, y, r, rfl, by simpa using h, rfl⟩
theorem good_drop {base : Int} {k : Nat} {s : TS} (h : GoodS base k s) : GoodS base k (dropT s) := by
  unfold dropT
  have l0 := h.lost0; have lk := h.lostk; have s0 := h.skip0; have sk := h.skipk
  split
  · exact h
  · split
    · exact ⟨h.last, h.srt, h.le, l0, lk, by show 0 ≤ s.skip - 1; omega, by show s.skip - 1 ≤ _; omega, h.len⟩
    · rcases dropL_cases s.st with e | ⟨x, y, r, e, _, e2⟩
      · rw [e]; exact h
      · rw [e2]
        have hs := h.srt
        have hle := h.le
        have hln := h.len
        rw [e] at hs hle hln
        refine ⟨?_, (List.pairwise_cons.1 hs).2, fun z hz => hle z (List.mem_cons_of_mem _ hz), l0, lk, s0, sk, ?_⟩
        · obtain ⟨q, hq⟩ := h.last
          rw [e] at hq
          cases q with
          | nil => simp at hq
          | cons a q => simp at hq; exact ⟨q, hq.2⟩
        · simp only [List.length_cons] at hln; show (y :: r).length ≤ _; simp only [List.length_cons]; omega
theorem good_step {base : Int} {k : Nat} {s : TS} (h : GoodS base k s) (c f : Int) : GoodS base (k + 1) (stepT c f s) := by
  unfold stepT
  split
  · exact good_push h _ _ _
  · split
    · exact good_mono (good_end h) (by omega)
    · split
      · exact good_mono (good_drop h) (by omega)
      · split
        · exact good_push h _ _ _
        · split
          · exact good_push h _ _ _
          · split
            · exact good_push h _ _ _
            · split
              · exact good_push h _ _ _
              · exact good_mono h (by omega)
theorem good_told (c fs : Nat → Int) {base : Int} (hb : 0 ≤ base ∧ base ≤ 1) (k : Nat) : GoodS base k (told c fs base k) := by
  induction k with
  | zero => exact good_zero hb
  | succ k ih => exact good_step ih _ _
theorem good_at {base : Int} {k : Nat} {s : TS} (h : GoodS base k s) (c : Int) : GoodS base k (atT c s) := by
  unfold atT; split
  · exact good_end h
  · exact h
theorem good_top {base : Int} {k : Nat} {s : TS} (h : GoodS base k s) : base ≤ topL s.st ∧ topL s.st ≤ 20 := by
  obtain ⟨x, r, hx⟩ := good_ne h
  have := h.le x (by rw [hx]; simp)
  rw [hx]; exact this
theorem lvAt_bd (c fs : Nat → Int) {base : Int} (hb : 0 ≤ base ∧ base ≤ 1) (k : Nat) : (tellsB (c k) = true ∧ lvAt c fs base k = -1) ∨ (tellsB (c k) = false ∧ base ≤ lvAt c fs base k ∧ lvAt c fs base k ≤ 20) := by
  unfold lvAt lvT
  cases h : tellsB (c k) with
  | true => exact .inl ⟨rfl, if_pos rfl⟩
  | false =>
    have := good_top (good_at (good_told c fs hb k) (c k))
    exact .inr ⟨rfl, by rw [if_neg (by simp)]; exact this⟩
end Go.Proofs.Ytkdmfjnaajedhaa
