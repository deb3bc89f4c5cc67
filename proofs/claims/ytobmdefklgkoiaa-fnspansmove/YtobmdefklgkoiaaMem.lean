import Derived.Test.YtobmdefklgkoiaaRows
import Derived.WalkKit
import Derived.ProofKit
import Derived.OpenShut
import Derived.Below
import Derived.Handy
import Derived.OneCell
import Derived.WalkSmall
import Derived.Deep.QuietTactic
import Derived.BigQuiet
namespace Go.Proofs.Ytobmdefklgkoiaa
open Go.RowKit
set_option linter.unusedSimpArgs false

theorem retInt {k : IntKind} {a b : Int} (h : a = b) : Ending.returned (.int k a) = .returned (.int k b) := by rw [h]
theorem retBool {a b : Bool} (h : a = b) : Ending.returned (.bool a) = .returned (.bool b) := by rw [h]

/-- The number at a place of a list. -/
def fn (l : List Int) (j : Nat) : Int := l.getD j 0
theorem fn_get {l : List Int} {j : Nat} (h : j < l.length) : fn l j = l[j] := by simp [fn, h]
theorem fn_take {l : List Int} {n j : Nat} (h : j < n) : fn (l.take n) j = fn l j := by simp [fn, h, List.getD]
theorem fn_append_left {l r : List Int} {j : Nat} (h : j < l.length) : fn (l ++ r) j = fn l j := by simp [fn, List.getD, List.getElem?_append_left h]
theorem ext_fn {l r : List Int} (h : l.length = r.length) (e : ∀ j, j < l.length → fn l j = fn r j) : l = r := by
  apply List.ext_getElem h
  intro j h1 h2
  have := e j h1
  rwa [fn_get h1, fn_get h2] at this

/-- A row of numbers lies in memory. -/
def At (w : World) (b off : Nat) (l : List Int) : Prop := ∀ j, j < l.length → w.cell? ⟨b, off + j, none⟩ = some (.int .i64 (fn l j))
/-- A slice whose numbers can be read. -/
def Arg (w : World) (v : Value) (l : List Int) : Prop :=
  (∃ a cap, v = .slice a 0 cap ∧ l = []) ∨ ∃ b off cap, v = .slice (some ⟨b, off, none⟩) l.length cap ∧ b < w.heap.size ∧ l.length ≤ cap ∧ cap ≤ maxLen ∧ At w b off l
/-- A slice that owns its numbers: a row of its own, from block B on. -/
def OwnI (w : World) (B : Nat) (v : Value) (l : List Int) : Prop := w.ownsRow B 3 1 v l.length (l.map (Value.int .i64))

theorem At.below {w w' : World} {b off : Nat} {l : List Int} {B : Nat} (h : At w b off l) (hb : Below B w w') (hB : b < B) : At w' b off l :=
  fun j hj => (hb.cell (p := ⟨b, off + j, none⟩) hB).trans (h j hj)
theorem Arg.below {w w' : World} {v : Value} {l : List Int} (h : Arg w v l) (hb : Below w.heap.size w w') : Arg w' v l := by
  rcases h with h | ⟨b, off, cap, rfl, h1, h2, h3, h4⟩
  · exact .inl h
  · exact .inr ⟨b, off, cap, rfl, Nat.lt_of_lt_of_le h1 hb.size, h2, h3, h4.below hb h1⟩
theorem Arg.drewN {w : World} {v : Value} {l : List Int} (h : Arg w v l) (n : Nat) : Arg (w.drewN n) v l :=
  h.below ⟨rfl, rfl, rfl, Nat.le_refl _, fun _ _ => rfl⟩
theorem below_draws (w : World) (n : Nat) : Below w.heap.size w (w.drewN n) := ⟨rfl, rfl, rfl, Nat.le_refl _, fun _ _ => rfl⟩
theorem bstep {w a b : World} (h : Below w.heap.size w a) (k : Below a.heap.size a b) : Below w.heap.size w b := h.trans (k.mono h.size)
theorem OwnI.drewN {w : World} {v : Value} {l : List Int} {B : Nat} (h : OwnI w B v l) (n : Nat) : OwnI (w.drewN n) B v l := h
theorem OwnI.mono {w : World} {v : Value} {l : List Int} {B B' : Nat} (h : OwnI w B v l) (hB : B' ≤ B) : OwnI w B' v l := by
  refine ⟨h.1, ?_⟩
  rcases h.2 with h | ⟨g, cap, cur, h1, h2, h3⟩
  · exact .inl h
  · exact .inr ⟨g, cap, cur, h1, Nat.le_trans hB h2, h3⟩
theorem OwnI.nil (w : World) (B : Nat) : OwnI w B (.slice none 0 0) [] := World.ownsRow_nil w B _ 1
theorem OwnI.forms {w : World} {v : Value} {l : List Int} {B : Nat} (h : OwnI w B v l) :
    (v = .slice none 0 0 ∧ l = []) ∨ ∃ g cap, v = .slice (some ⟨g, 0, none⟩) l.length cap ∧ B ≤ g ∧ g < w.heap.size ∧ l.length ≤ cap ∧ cap ≤ maxLen ∧ At w g 0 l := by
  rcases h.2 with ⟨h1, h2⟩ | ⟨g, cap, cur, h1, h2, h3, h4, h5, h6, h7⟩
  · exact .inl ⟨h1, List.eq_nil_of_length_eq_zero h2⟩
  · refine .inr ⟨g, cap, h1, h2, (Array.getElem?_eq_some_iff.1 h3).1, h4, h5, fun j hj => ?_⟩
    subst h1
    have := World.ownsRow.cellAt h j (by omega)
    rw [Nat.zero_add, this]
    simp [fn_get hj, hj]
theorem OwnI.arg {w : World} {v : Value} {l : List Int} {B : Nat} (h : OwnI w B v l) : Arg w v l := by
  rcases h.forms with h | ⟨g, cap, h1, _, h2, h3, h4, h5⟩
  · exact .inl ⟨none, 0, h⟩
  · exact .inr ⟨g, 0, cap, h1, h2, h3, h4, h5⟩
theorem OwnI.below {w w' : World} {v : Value} {l : List Int} {B : Nat} (h : OwnI w B v l) (hb : Below w.heap.size w w') : OwnI w' B v l := by
  refine ⟨h.1, ?_⟩
  rcases h.2 with h | ⟨g, cap, cur, h1, h2, h3, h4⟩
  · exact .inl h
  · exact .inr ⟨g, cap, cur, h1, h2, (hb.block g (Array.getElem?_eq_some_iff.1 h3).1).trans h3, h4⟩
/-- What is kept where only blocks other than the row's own turn. -/
theorem OwnI.kept {w w' : World} {v : Value} {l : List Int} {B : Nat} (h : OwnI w B v l) (hb : ∀ k, v.ownBlock = some k → w'.heap[k]? = w.heap[k]?) : OwnI w' B v l := by
  refine ⟨h.1, ?_⟩
  rcases h.2 with h | ⟨g, cap, cur, rfl, h2, h3, h4⟩
  · exact .inl h
  · exact .inr ⟨g, cap, cur, rfl, h2, (hb g rfl).trans h3, h4⟩
theorem OwnI.lt {w : World} {v : Value} {l : List Int} {B : Nat} (h : OwnI w B v l) : ∀ k, v.ownBlock = some k → B ≤ k ∧ k < w.heap.size := World.ownsRow.lt h
theorem OwnI.frozen {w : World} {g cap : Nat} {l : List Int} {B : Nat} (h : OwnI w B (.slice (some ⟨g, 0, none⟩) l.length cap) l) (j : Nat) : w.frozen? ⟨g, j, none⟩ = false :=
  World.ownsRow.frozenAt h j
theorem OwnI.stored {w : World} {g cap : Nat} {l : List Int} {B : Nat} (h : OwnI w B (.slice (some ⟨g, 0, none⟩) l.length cap) l) (j : Nat) (x : Int) :
    OwnI (w.setCell ⟨g, j, none⟩ (.int .i64 x)) B (.slice (some ⟨g, 0, none⟩) l.length cap) (l.set j x) := by
  have := (World.ownsRow.stored h j (.int .i64 x)).1
  unfold OwnI
  rw [List.length_set, List.map_set]
  exact this
theorem OwnI.len {w : World} {a : Addr} {n cap : Nat} {l : List Int} {B : Nat} (h : OwnI w B (.slice (some a) n cap) l) : l.length = n := by
  rcases h.2 with ⟨h1, _⟩ | ⟨g, c, cur, h1, _⟩
  · cases h1
  · simp only [Value.slice.injEq] at h1; exact h1.2.1.symm
theorem OwnI.frozenN {w : World} {g n cap : Nat} {l : List Int} {B : Nat} (h : OwnI w B (.slice (some ⟨g, 0, none⟩) n cap) l) (j : Nat) : w.frozen? ⟨g, j, none⟩ = false := by
  have e := h.len
  subst e
  exact h.frozen j
theorem OwnI.cellN {w : World} {g n cap : Nat} {l : List Int} {B : Nat} (h : OwnI w B (.slice (some ⟨g, 0, none⟩) n cap) l) (j : Nat) (hj : j < n) : w.cell? ⟨g, j, none⟩ = some (.int .i64 (fn l j)) := by
  have e := h.len
  subst e
  rcases h.forms with ⟨h, _⟩ | ⟨g', c', h1, _, _, _, _, h2⟩
  · cases h
  · simp only [Value.slice.injEq, Option.some.injEq, Addr.mk.injEq] at h1
    obtain ⟨⟨rfl, _⟩, _⟩ := h1
    have := h2 j hj
    rwa [Nat.zero_add] at this
theorem OwnI.storedN {w : World} {g n cap : Nat} {l : List Int} {B : Nat} (h : OwnI w B (.slice (some ⟨g, 0, none⟩) n cap) l) (j : Nat) (x : Int) :
    OwnI (w.setCell ⟨g, j, none⟩ (.int .i64 x)) B (.slice (some ⟨g, 0, none⟩) n cap) (l.set j x) := by
  have e := h.len
  subst e
  exact h.stored j x
theorem fn_set_same {l : List Int} {j : Nat} {x : Int} (h : j < l.length) : fn (l.set j x) j = x := by simp [fn, h]
theorem fn_set_other {l : List Int} {i j : Nat} {x : Int} (h : i ≠ j) : fn (l.set i x) j = fn l j := by simp [fn, List.getD, List.getElem?_set_ne h]
theorem Below.setOwn {w W : World} {g j : Nat} {x : Value} {B : Nat} (hb : Below B W w) (h : B ≤ g) : Below B W (w.setCell ⟨g, j, none⟩ x) := hb.setCell h _
/-- What came in as a row of numbers can be read. -/
theorem arg_of_row {w : World} {a : Option Addr} {len cap : Nat} {zs : List Int}
    (h : (a = none ∧ len = 0 ∧ cap = 0 ∧ zs = []) ∨ ∃ x, a = some x ∧ len ≤ cap ∧ cap ≤ maxLen ∧ zs.length = cap ∧ (∀ i, i < zs.length → w.cell? (x.add i) = some (.int .i64 (zs.getD i 0))) ∧ ∀ n ∈ zs, (Lit.int .i64 n).wf = true) :
    Arg w (.slice a len cap) (zs.take len) ∧ (zs.take len).length = len := by
  rcases h with ⟨rfl, rfl, rfl, rfl⟩ | ⟨x, rfl, h1, h2, h3, h4, _⟩
  · exact ⟨.inl ⟨_, _, rfl, rfl⟩, rfl⟩
  · have hlen : (zs.take len).length = len := by rw [List.length_take]; omega
    refine ⟨?_, hlen⟩
    by_cases h0 : len = 0
    · subst h0; exact .inl ⟨_, _, rfl, by simp⟩
    · obtain ⟨b, off, spot⟩ := x
      have hc := h4 0 (by omega)
      have hspot : spot = none := by simpa [Addr.add] using World.cell?_spot hc
      subst hspot
      have hb := World.block_lt_of_cell? _ _ hc
      refine .inr ⟨b, off, cap, by rw [hlen], ?_, by omega, h2, fun j hj => ?_⟩
      · simpa [Addr.add] using hb
      · have := h4 j (by omega)
        have hadd : (⟨b, off, none⟩ : Addr).add j = ⟨b, off + j, none⟩ := by unfold Addr.add; split <;> simp_all
        rw [hadd] at this
        rw [fn_take (by omega)]
        exact this
end Go.Proofs.Ytobmdefklgkoiaa
