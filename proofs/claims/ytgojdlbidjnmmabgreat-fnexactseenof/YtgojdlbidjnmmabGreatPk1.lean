import Derived.Test.YtgojdlbidjnmmabGreatRows
import Derived.WalkKit
import Derived.ProofKit
import Derived.OpenShut
import Derived.Below
import Derived.Handy
import Derived.OneCell
import Derived.WalkSmall
import Derived.Deep.QuietTactic
import Derived.BigQuiet
namespace Go.Proofs.YtgojdlbidjnmmabGreat

theorem ret_int {k : IntKind} {a b : Int} (h : a = b) : Ending.returned (.int k a) = .returned (.int k b) := by rw [h]
end Go.Proofs.YtgojdlbidjnmmabGreat
namespace Go.Proofs.YtgojdlbidjnmmabGreat
open Go.ChangeShapes Go.WideShapes Go.ChangeAt Go.RowKit
set_option linter.unusedSimpArgs false

def moves (r : Int) : Int :=
  if r = 8234 then 14 else if r = 8235 then 15 else if r = 8236 then 16 else if r = 8237 then 17 else if r = 8238 then 18 else
  if r = 8294 then 19 else if r = 8295 then 20 else if r = 8296 then 21 else if r = 8297 then 22 else 13

def signs (r : Int) : Int :=
  if r = 43 ∨ r = 45 then 5 else if 35 ≤ r ∧ r ≤ 37 then 6 else if r = 44 ∨ r = 46 ∨ r = 47 ∨ r = 58 then 8 else
  if 768 ≤ r ∧ r ≤ 879 then 9 else if r = 8203 ∨ r = 8205 ∨ r = 173 then 10 else if r = 9 then 11 else if r = 32 then 12 else moves r

def bidi (r : Int) : Int :=
  if (97 ≤ r ∧ r ≤ 122) ∨ (65 ≤ r ∧ r ≤ 90) ∨ (19968 ≤ r ∧ r ≤ 40959) then 1 else
  if 1488 ≤ r ∧ r ≤ 1514 then 2 else if 1569 ≤ r ∧ r ≤ 1610 then 3 else if 48 ≤ r ∧ r ≤ 57 then 4 else if 1632 ≤ r ∧ r ≤ 1641 then 7 else signs r

def inB (n lo hi : Int) : Bool := decide (lo ≤ n ∧ n ≤ hi)
theorem inB_true {n lo hi : Int} (h : inB n lo hi = true) : lo ≤ n ∧ n ≤ hi := by simpa [inB] using h
theorem inB_false {n lo hi : Int} (h : inB n lo hi = false) : ¬ (lo ≤ n ∧ n ≤ hi) := by simpa [inB] using h
theorem ret_bool {a b : Bool} (h : a = b) : Ending.returned (.bool a) = .returned (.bool b) := by rw [h]

set_option maxHeartbeats 1000000 in
theorem specIn (n lo hi : Int) (w : World) : Calls Tryz.prog 17 #[.int .i64 n, .int .i64 lo, .int .i64 hi] w fun e w' => e = .returned (.bool (inB n lo hi)) ∧ w' = w := by
  go_enter Tryz.func17, Tryz.ntmps17
  go_wp2
  all_goals (go_ret; refine ⟨ret_bool ?_, rfl⟩)
  all_goals (simp [inB])
  all_goals omega

end Go.Proofs.YtgojdlbidjnmmabGreat
namespace Go.Proofs.YtgojdlbidjnmmabGreat
set_option linter.unusedSimpArgs false

def letter (r : Int) : Bool := decide (0 ≤ r ∧ r ≤ 1114111 ∧ ¬ (55296 ≤ r ∧ r ≤ 57343))
def allB (p : Nat → Bool) : Nat → Bool
  | 0 => true
  | k + 1 => allB p k && p k
theorem allB_iff (p : Nat → Bool) (n : Nat) : allB p n = true ↔ ∀ j, j < n → p j = true := by
  induction n with
  | zero => simp [allB]
  | succ n ih =>
    simp only [allB, Bool.and_eq_true, ih]
    constructor
    · intro h j hj
      by_cases e : j = n
      · subst e; exact h.2
      · exact h.1 j (by omega)
    · intro h; exact ⟨fun j hj => h j (by omega), h n (by omega)⟩
theorem allB_false {p : Nat → Bool} {n k : Nat} (hk : k < n) (h : p k = false) : allB p n = false := by
  rw [Bool.eq_false_iff]; intro a; rw [allB_iff] at a; have := a k hk; rw [h] at this; cases this

def okF (z : Nat → Int) (len : Nat) : Bool := decide (len ≤ 80) && allB (fun j => letter (z j)) len

def flag (r : Int) : Bool := decide (127462 ≤ r ∧ r ≤ 127487)
def runOf (z : Nat → Int) : Nat → Nat
  | 0 => 0
  | k + 1 => if flag (z k) = true then runOf z k + 1 else 0
def joins (z : Nat → Int) (k : Nat) : Bool :=
  if z k = 10 ∨ z (k - 1) = 10 then decide (z (k - 1) = 13 ∧ z k = 10)
  else if bidi (z k) = 9 ∨ z k = 8205 then true
  else flag (z k) && decide (runOf z k % 2 = 1)
def begins (z : Nat → Int) (k : Nat) : Bool := decide (k = 0) || !(joins z k)
def starts (z : Nat → Int) : Nat → List Int
  | 0 => []
  | k + 1 => if begins z k = true then starts z k ++ [(k : Int)] else starts z k

def st (z : Nat → Int) : Nat → Int
  | 0 => 0
  | k + 1 => if z k = 13 then 2 else if z k = 10 then 3 else if flag (z k) = true ∧ st z k ≠ 4 then 4 else 1
def stJoins (s r : Int) : Bool :=
  if s = 0 then false else if s = 3 ∨ r = 10 then decide (s = 2 ∧ r = 10) else if bidi r = 9 ∨ r = 8205 then true else decide (s = 4) && flag r

theorem st_bounds (z : Nat → Int) (k : Nat) : 0 ≤ st z k ∧ st z k ≤ 4 := by
  cases k with
  | zero => simp [st]
  | succ k => simp only [st]; split <;> (try split) <;> (try split) <;> omega

theorem st_four (z : Nat → Int) (k : Nat) : st z k = 4 ↔ runOf z k % 2 = 1 := by
  induction k with
  | zero => simp [st, runOf]
  | succ k ih =>
    simp only [st, runOf]
    by_cases h13 : z k = 13
    · have hf : flag (z k) = false := by rw [h13]; decide
      simp [h13, hf]
      rw [h13] at hf; simp [hf]
    · by_cases h10 : z k = 10
      · have hf : flag (z k) = false := by rw [h10]; decide
        rw [if_neg h13, if_pos h10, hf]; simp
      · rw [if_neg h13, if_neg h10]
        by_cases hf : flag (z k) = true
        · by_cases h4 : st z k = 4
          · have := ih.1 h4
            rw [if_neg (by simp [h4]), if_pos hf]; omega
          · have h5 : ¬ runOf z k % 2 = 1 := fun h => h4 (ih.2 h)
            rw [if_pos ⟨hf, h4⟩, if_pos hf]; simp; omega
        · rw [if_neg (by simp [hf]), if_neg hf]; simp

theorem st_joins (z : Nat → Int) (k : Nat) : stJoins (st z k) (z k) = !(begins z k) := by
  cases k with
  | zero => simp [stJoins, st, begins]
  | succ k =>
    have h4 := st_four z (k + 1)
    have e0 : st z (k + 1) ≠ 0 := by
      simp only [st]; split <;> (try split) <;> (try split) <;> omega
    have e3 : st z (k + 1) = 3 ↔ z k = 10 := by
      simp only [st]; split
      · constructor <;> intro h <;> omega
      · split
        · simp_all
        · split <;> constructor <;> intro h <;> omega
    have e2 : st z (k + 1) = 2 ↔ z k = 13 := by
      simp only [st]; split
      · simp_all
      · split
        · simp_all
        · split <;> constructor <;> intro h <;> omega
    generalize st z (k + 1) = s at *
    simp only [stJoins, begins, joins, Nat.add_sub_cancel, e0, if_false, e3, e2]
    generalize runOf z (k + 1) = q at *
    by_cases h1 : z k = 10 ∨ z (k + 1) = 10
    · have h1' : z (k + 1) = 10 ∨ z k = 10 := h1.symm
      simp [h1, h1']
    · have h1' : ¬ (z (k + 1) = 10 ∨ z k = 10) := fun h => h1 h.symm
      simp only [h1, h1', if_false]
      by_cases h5 : bidi (z (k + 1)) = 9 ∨ z (k + 1) = 8205
      · simp [h5]
      · simp only [h5, if_false]
        by_cases h6 : s = 4
        · have := h4.1 h6; simp [h6, this]
        · have : ¬ q % 2 = 1 := fun h => h6 (h4.2 h)
          simp [h6, this]

theorem starts_len (z : Nat → Int) (n : Nat) : (starts z n).length ≤ n := by
  induction n with
  | zero => simp [starts]
  | succ n ih =>
    simp only [starts]; split
    · simp; omega
    · omega
theorem starts_lt (z : Nat → Int) (n : Nat) : ∀ x ∈ starts z n, 0 ≤ x ∧ x < n := by
  induction n with
  | zero => simp [starts]
  | succ n ih =>
    intro x hx
    simp only [starts] at hx
    split at hx
    · rw [List.mem_append] at hx
      rcases hx with hx | hx
      · have := ih x hx; omega
      · simp at hx; omega
    · have := ih x hx; omega
end Go.Proofs.YtgojdlbidjnmmabGreat
namespace Go.Proofs.YtgojdlbidjnmmabGreat
open Go.RowKit
set_option linter.unusedSimpArgs false

theorem retInt {k : IntKind} {a b : Int} (h : a = b) : Ending.returned (.int k a) = .returned (.int k b) := by rw [h]
theorem retBool {a b : Bool} (h : a = b) : Ending.returned (.bool a) = .returned (.bool b) := by rw [h]

/-- The number at a place of a list. -/
def fn (l : List Int) (j : Nat) : Int := l.getD j 0
theorem fn_get {l : List Int} {j : Nat} (h : j < l.length) : fn l j = l[j] := by simp [fn, h]
theorem fn_take {l : List Int} {n j : Nat} (h : j < n) : fn (l.take n) j = fn l j := by simp [fn, h, List.getD]
theorem fn_append_left {l r : List Int} {j : Nat} (h : j < l.length) : fn (l ++ r) j = fn l j := by simp [fn, List.getD, List.getElem?_append_left h]
theorem ext_fn {l r : List Int} (h : l.length = r.length) (e : ∀ j, j < l.length → fn l j = fn r j) : l = r := by
  apply List.ext_getElem h
  intro j h1 h2
  have := e j h1
  rwa [fn_get h1, fn_get h2] at this

/-- A row of numbers lies in memory. -/
def At (w : World) (b off : Nat) (l : List Int) : Prop := ∀ j, j < l.length → w.cell? ⟨b, off + j, none⟩ = some (.int .i64 (fn l j))
/-- A slice whose numbers can be read. -/
def Arg (w : World) (v : Value) (l : List Int) : Prop :=
  (∃ a cap, v = .slice a 0 cap ∧ l = []) ∨ ∃ b off cap, v = .slice (some ⟨b, off, none⟩) l.length cap ∧ b < w.heap.size ∧ l.length ≤ cap ∧ cap ≤ maxLen ∧ At w b off l
/-- A slice that owns its numbers: a row of its own, from block B on. -/
def OwnI (w : World) (B : Nat) (v : Value) (l : List Int) : Prop := w.ownsRow B 3 1 v l.length (l.map (Value.int .i64))

theorem At.below {w w' : World} {b off : Nat} {l : List Int} {B : Nat} (h : At w b off l) (hb : Below B w w') (hB : b < B) : At w' b off l :=
  fun j hj => (hb.cell (p := ⟨b, off + j, none⟩) hB).trans (h j hj)
theorem Arg.below {w w' : World} {v : Value} {l : List Int} (h : Arg w v l) (hb : Below w.heap.size w w') : Arg w' v l := by
  rcases h with h | ⟨b, off, cap, rfl, h1, h2, h3, h4⟩
  · exact .inl h
  · exact .inr ⟨b, off, cap, rfl, Nat.lt_of_lt_of_le h1 hb.size, h2, h3, h4.below hb h1⟩
theorem Arg.drewN {w : World} {v : Value} {l : List Int} (h : Arg w v l) (n : Nat) : Arg (w.drewN n) v l :=
  h.below ⟨rfl, rfl, rfl, Nat.le_refl _, fun _ _ => rfl⟩
theorem below_draws (w : World) (n : Nat) : Below w.heap.size w (w.drewN n) := ⟨rfl, rfl, rfl, Nat.le_refl _, fun _ _ => rfl⟩
theorem bstep {w a b : World} (h : Below w.heap.size w a) (k : Below a.heap.size a b) : Below w.heap.size w b := h.trans (k.mono h.size)
theorem OwnI.drewN {w : World} {v : Value} {l : List Int} {B : Nat} (h : OwnI w B v l) (n : Nat) : OwnI (w.drewN n) B v l := h
theorem OwnI.mono {w : World} {v : Value} {l : List Int} {B B' : Nat} (h : OwnI w B v l) (hB : B' ≤ B) : OwnI w B' v l := by
  refine ⟨h.1, ?_⟩
  rcases h.2 with h | ⟨g, cap, cur, h1, h2, h3⟩
  · exact .inl h
  · exact .inr ⟨g, cap, cur, h1, Nat.le_trans hB h2, h3⟩
theorem OwnI.nil (w : World) (B : Nat) : OwnI w B (.slice none 0 0) [] := World.ownsRow_nil w B _ 1
theorem OwnI.forms {w : World} {v : Value} {l : List Int} {B : Nat} (h : OwnI w B v l) :
    (v = .slice none 0 0 ∧ l = []) ∨ ∃ g cap, v = .slice (some ⟨g, 0, none⟩) l.length cap ∧ B ≤ g ∧ g < w.heap.size ∧ l.length ≤ cap ∧ cap ≤ maxLen ∧ At w g 0 l := by
  rcases h.2 with ⟨h1, h2⟩ | ⟨g, cap, cur, h1, h2, h3, h4, h5, h6, h7⟩
  · exact .inl ⟨h1, List.eq_nil_of_length_eq_zero h2⟩
  · refine .inr ⟨g, cap, h1, h2, (Array.getElem?_eq_some_iff.1 h3).1, h4, h5, fun j hj => ?_⟩
    subst h1
    have := World.ownsRow.cellAt h j (by omega)
    rw [Nat.zero_add, this]
    simp [fn_get hj, hj]
theorem OwnI.arg {w : World} {v : Value} {l : List Int} {B : Nat} (h : OwnI w B v l) : Arg w v l := by
  rcases h.forms with h | ⟨g, cap, h1, _, h2, h3, h4, h5⟩
  · exact .inl ⟨none, 0, h⟩
  · exact .inr ⟨g, 0, cap, h1, h2, h3, h4, h5⟩
theorem OwnI.below {w w' : World} {v : Value} {l : List Int} {B : Nat} (h : OwnI w B v l) (hb : Below w.heap.size w w') : OwnI w' B v l := by
  refine ⟨h.1, ?_⟩
  rcases h.2 with h | ⟨g, cap, cur, h1, h2, h3, h4⟩
  · exact .inl h
  · exact .inr ⟨g, cap, cur, h1, h2, (hb.block g (Array.getElem?_eq_some_iff.1 h3).1).trans h3, h4⟩
/-- What is kept where only blocks other than the row's own turn. -/
theorem OwnI.kept {w w' : World} {v : Value} {l : List Int} {B : Nat} (h : OwnI w B v l) (hb : ∀ k, v.ownBlock = some k → w'.heap[k]? = w.heap[k]?) : OwnI w' B v l := by
  refine ⟨h.1, ?_⟩
  rcases h.2 with h | ⟨g, cap, cur, rfl, h2, h3, h4⟩
  · exact .inl h
  · exact .inr ⟨g, cap, cur, rfl, h2, (hb g rfl).trans h3, h4⟩
theorem OwnI.lt {w : World} {v : Value} {l : List Int} {B : Nat} (h : OwnI w B v l) : ∀ k, v.ownBlock = some k → B ≤ k ∧ k < w.heap.size := World.ownsRow.lt h
theorem OwnI.frozen {w : World} {g cap : Nat} {l : List Int} {B : Nat} (h : OwnI w B (.slice (some ⟨g, 0, none⟩) l.length cap) l) (j : Nat) : w.frozen? ⟨g, j, none⟩ = false :=
  World.ownsRow.frozenAt h j
theorem OwnI.stored {w : World} {g cap : Nat} {l : List Int} {B : Nat} (h : OwnI w B (.slice (some ⟨g, 0, none⟩) l.length cap) l) (j : Nat) (x : Int) :
    OwnI (w.setCell ⟨g, j, none⟩ (.int .i64 x)) B (.slice (some ⟨g, 0, none⟩) l.length cap) (l.set j x) := by
  have := (World.ownsRow.stored h j (.int .i64 x)).1
  unfold OwnI
  rw [List.length_set, List.map_set]
  exact this
theorem OwnI.len {w : World} {a : Addr} {n cap : Nat} {l : List Int} {B : Nat} (h : OwnI w B (.slice (some a) n cap) l) : l.length = n := by
  rcases h.2 with ⟨h1, _⟩ | ⟨g, c, cur, h1, _⟩
  · cases h1
  · simp only [Value.slice.injEq] at h1; exact h1.2.1.symm
theorem OwnI.frozenN {w : World} {g n cap : Nat} {l : List Int} {B : Nat} (h : OwnI w B (.slice (some ⟨g, 0, none⟩) n cap) l) (j : Nat) : w.frozen? ⟨g, j, none⟩ = false := by
  have e := h.len
  subst e
  exact h.frozen j
theorem OwnI.cellN {w : World} {g n cap : Nat} {l : List Int} {B : Nat} (h : OwnI w B (.slice (some ⟨g, 0, none⟩) n cap) l) (j : Nat) (hj : j < n) : w.cell? ⟨g, j, none⟩ = some (.int .i64 (fn l j)) := by
  have e := h.len
  subst e
  rcases h.forms with ⟨h, _⟩ | ⟨g', c', h1, _, _, _, _, h2⟩
  · cases h
  · simp only [Value.slice.injEq, Option.some.injEq, Addr.mk.injEq] at h1
    obtain ⟨⟨rfl, _⟩, _⟩ := h1
    have := h2 j hj
    rwa [Nat.zero_add] at this
theorem OwnI.storedN {w : World} {g n cap : Nat} {l : List Int} {B : Nat} (h : OwnI w B (.slice (some ⟨g, 0, none⟩) n cap) l) (j : Nat) (x : Int) :
    OwnI (w.setCell ⟨g, j, none⟩ (.int .i64 x)) B (.slice (some ⟨g, 0, none⟩) n cap) (l.set j x) := by
  have e := h.len
  subst e
  exact h.stored j x
theorem fn_set_same {l : List Int} {j : Nat} {x : Int} (h : j < l.length) : fn (l.set j x) j = x := by simp [fn, h]
theorem fn_set_other {l : List Int} {i j : Nat} {x : Int} (h : i ≠ j) : fn (l.set i x) j = fn l j := by simp [fn, List.getD, List.getElem?_set_ne h]
theorem Below.setOwn {w W : World} {g j : Nat} {x : Value} {B : Nat} (hb : Below B W w) (h : B ≤ g) : Below B W (w.setCell ⟨g, j, none⟩ x) := hb.setCell h _
/-- What came in as a row of numbers can be read. -/
theorem arg_of_row {w : World} {a : Option Addr} {len cap : Nat} {zs : List Int}
    (h : (a = none ∧ len = 0 ∧ cap = 0 ∧ zs = []) ∨ ∃ x, a = some x ∧ len ≤ cap ∧ cap ≤ maxLen ∧ zs.length = cap ∧ (∀ i, i < zs.length → w.cell? (x.add i) = some (.int .i64 (zs.getD i 0))) ∧ ∀ n ∈ zs, (Lit.int .i64 n).wf = true) :
    Arg w (.slice a len cap) (zs.take len) ∧ (zs.take len).length = len := by
  rcases h with ⟨rfl, rfl, rfl, rfl⟩ | ⟨x, rfl, h1, h2, h3, h4, _⟩
  · exact ⟨.inl ⟨_, _, rfl, rfl⟩, rfl⟩
  · have hlen : (zs.take len).length = len := by rw [List.length_take]; omega
    refine ⟨?_, hlen⟩
    by_cases h0 : len = 0
    · subst h0; exact .inl ⟨_, _, rfl, by simp⟩
    · obtain ⟨b, off, spot⟩ := x
      have hc := h4 0 (by omega)
      have hspot : spot = none := by simpa [Addr.add] using World.cell?_spot hc
      subst hspot
      have hb := World.block_lt_of_cell? _ _ hc
      refine .inr ⟨b, off, cap, by rw [hlen], ?_, by omega, h2, fun j hj => ?_⟩
      · simpa [Addr.add] using hb
      · have := h4 j (by omega)
        have hadd : (⟨b, off, none⟩ : Addr).add j = ⟨b, off + j, none⟩ := by unfold Addr.add; split <;> simp_all
        rw [hadd] at this
        rw [fn_take (by omega)]
        exact this
end Go.Proofs.YtgojdlbidjnmmabGreat
