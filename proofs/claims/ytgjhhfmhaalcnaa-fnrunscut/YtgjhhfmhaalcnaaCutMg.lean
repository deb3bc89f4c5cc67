import Derived.Test.YtgjhhfmhaalcnaaCutIt
namespace Go.Proofs.Ytgjhhfmhaalcnaa
open Go.ChangeShapes Go.WideShapes Go.ChangeAt Go.RowKit
set_option linter.unusedSimpArgs false

/-- Where things lie while runs are merged. -/
structure Lay (PA NA PB NB G H : Nat) : Prop where
  p1 : PA < NA
  p2 : NA < PB
  p3 : PB < NB
  p4 : NB < G
  p5 : G < H
/-- What lies there. -/
structure Mg (w : World) (PA NA PB NB : Nat) (va vb : Value) (ca cb : Nat) : Prop where
  pa : w.heap[PA]? = some (.cells #[va] 33 (0, 0))
  na : w.heap[NA]? = some (.cells #[.int .i64 (ca : Int)] 3 (0, 0))
  pb : w.heap[PB]? = some (.cells #[vb] 33 (0, 0))
  nb : w.heap[NB]? = some (.cells #[.int .i64 (cb : Int)] 3 (0, 0))
/-- A run in a block of its own. -/
def Tri (w : World) (G : Nat) (x y z : Int) : Prop := w.heap[G]? = some (.cells #[.int .i64 x, .int .i64 y, .int .i64 z] 38 (0, 0))
theorem blk_grown {w w' : World} {row : Option Nat} {k : Nat} {o : Obj} (hg : w.grownBy w' row) (h : w.heap[k]? = some o) (hne : some k ≠ row) : w'.heap[k]? = some o :=
  (hg.block k (Array.getElem?_eq_some_iff.1 h).1 hne).trans h
theorem Mg.grown {w w' : World} {PA NA PB NB ca cb : Nat} {va vb : Value} {row : Option Nat} (m : Mg w PA NA PB NB va vb ca cb) (hg : w.grownBy w' row) (h : ∀ k, row = some k → NB < k) (l : PA < NA ∧ NA < PB ∧ PB < NB) : Mg w' PA NA PB NB va vb ca cb :=
  ⟨blk_grown hg m.pa (fun e => by have := h _ e.symm; omega), blk_grown hg m.na (fun e => by have := h _ e.symm; omega), blk_grown hg m.pb (fun e => by have := h _ e.symm; omega), blk_grown hg m.nb (fun e => by have := h _ e.symm; omega)⟩
theorem Mg.moreA {w w' : World} {PA NA PB NB ca cb : Nat} {va vb : Value} (m : Mg w PA NA PB NB va vb ca cb) (hg : w.grownBy w' (some NA)) (h : w'.heap[NA]? = some (.cells #[.int .i64 ((ca + 1 : Nat) : Int)] 3 (0, 0))) (l : PA < NA ∧ NA < PB ∧ PB < NB) : Mg w' PA NA PB NB va vb (ca + 1) cb :=
  ⟨blk_grown hg m.pa (fun e => by simp at e; omega), h, blk_grown hg m.pb (fun e => by simp at e; omega), blk_grown hg m.nb (fun e => by simp at e; omega)⟩
theorem Mg.moreB {w w' : World} {PA NA PB NB ca cb : Nat} {va vb : Value} (m : Mg w PA NA PB NB va vb ca cb) (hg : w.grownBy w' (some NB)) (h : w'.heap[NB]? = some (.cells #[.int .i64 ((cb + 1 : Nat) : Int)] 3 (0, 0))) (l : PA < NA ∧ NA < PB ∧ PB < NB) : Mg w' PA NA PB NB va vb ca (cb + 1) :=
  ⟨blk_grown hg m.pa (fun e => by simp at e; omega), blk_grown hg m.na (fun e => by simp at e; omega), blk_grown hg m.pb (fun e => by simp at e; omega), h⟩
theorem grown_below_none {w w' : World} (h : Below w.heap.size w w') : w.grownBy w' none := ⟨h.os, h.tape, h.output, h.size, fun k hk _ => h.block k hk⟩
theorem grown_alloc1 (w : World) (o : Obj) (row : Option Nat) : w.grownBy (w.alloc o) row := World.grownBy_alloc w o row
theorem grown_set3 (w : World) (G : Nat) (x y z : Value) : w.grownBy (((w.setCell ⟨G, 0, none⟩ x).setCell ⟨G, 1, none⟩ y).setCell ⟨G, 2, none⟩ z) (some G) :=
  ⟨rfl, rfl, rfl, by simp, fun k hk hne => by
    have h : k ≠ G := fun e => hne (by rw [e])
    rw [heap_setCell_other _ ⟨G, 2, none⟩ k _ h, heap_setCell_other _ ⟨G, 1, none⟩ k _ h, heap_setCell_other _ ⟨G, 0, none⟩ k _ h]⟩
theorem Tri.set {w : World} {G : Nat} {x y z x' y' z' : Int} (h : Tri w G x y z) : Tri (((w.setCell ⟨G, 0, none⟩ (.int .i64 x')).setCell ⟨G, 1, none⟩ (.int .i64 y')).setCell ⟨G, 2, none⟩ (.int .i64 z')) G x' y' z' := by
  unfold Tri at h ⊢
  rw [heap_setCell_same _ G 2 _ _ _ (heap_setCell_same _ G 1 _ _ _ (heap_setCell_same w G 0 _ _ _ h))]
  rfl
theorem RR.grown {w w' : World} {a : Option Addr} {n : Nat} {l : List Int} {row : Option Nat} (h : RR w a n l) (hg : w.grownBy w' row) (hne : ∀ g o, a = some ⟨g, o, none⟩ → row ≠ some g) : RR w' a n l := fun j hj => by
  obtain ⟨g, rfl, h1, h2⟩ := h j hj
  refine ⟨g, rfl, Nat.lt_of_lt_of_le h1 hg.size, ?_⟩
  rw [World.cell?_of_block (a := ⟨g, j, none⟩) (hg.block g h1 (fun e => hne g 0 rfl e.symm))]
  exact h2
theorem OwnR.grown {w w' : World} {v : Value} {l : List Int} {B n : Nat} {row : Option Nat} (h : OwnR w B v n l) (hg : w.grownBy w' row) (hne : ∀ k, row = some k → k < B) : OwnR w' B v n l :=
  h.kept fun k hk => hg.block k (h.lt k hk).2 (fun e => by have := hne k e.symm; have := (h.lt k hk).1; omega)

/-- Where all lies. -/
structure Lays (B PA NA PB NB G H : Nat) (a b : Option Addr) : Prop where
  l : PA < NA ∧ NA < PB ∧ PB < NB
  b0 : B ≤ PA
  g : NB < G
  h : G < H
  a1 : ∀ g o, a = some ⟨g, o, none⟩ → g < B
  b1 : ∀ g o, b = some ⟨g, o, none⟩ → g < B
/-- The whole state of a merge: at the run i of the first row, the run k of the other one. -/
structure Ms (w0 w : World) (B PA NA PB NB G H : Nat) (a b : Option Addr) (n m ca cb : Nat) (la lb : List Int) (i k : Nat) (q : Value) (c : Nat) (O : List Int) : Prop where
  mg : Mg w PA NA PB NB (.slice a n ca) (.slice b m cb) (i + 1) (k + 1)
  g : Tri w G (fn la (i * 3)) (fn la (i * 3 + 1)) (fn la (i * 3 + 2))
  h : Tri w H (fn lb (k * 3)) (fn lb (k * 3 + 1)) (fn lb (k * 3 + 2))
  ra : RR w a n la
  rb : RR w b m lb
  out : OwnR w (H + 1) q c O
  bel : Below B w0 w
theorem Ms.app {w0 w : World} {B PA NA PB NB G H : Nat} {a b : Option Addr} {n m ca cb : Nat} {la lb : List Int} {i k : Nat} {q : Value} {c : Nat} {O : List Int} (s : Ms w0 w B PA NA PB NB G H a b n m ca cb la lb i k q c O) (L : Lays B PA NA PB NB G H a b) {w' : World} {q' : Value} {c' : Nat} {O' : List Int} (ho : OwnR w' (H + 1) q' c' O') (hg : w.grownBy w' q.ownBlock) : Ms w0 w' B PA NA PB NB G H a b n m ca cb la lb i k q' c' O' := by
  have hq : ∀ k, q.ownBlock = some k → H + 1 ≤ k := fun k e => (s.out.lt k e).1
  have h1 := L.g
  have h2 := L.h
  have h3 := L.b0
  have h4 := L.l
  refine ⟨s.mg.grown hg (fun k e => by have := hq k e; omega) L.l, blk_grown hg s.g (fun e => by have := hq _ e.symm; omega), blk_grown hg s.h (fun e => by have := hq _ e.symm; omega), s.ra.grown hg (fun g o e q => by have := hq _ q; have := L.a1 g o e; omega), s.rb.grown hg (fun g o e q => by have := hq _ q; have := L.b1 g o e; omega), ho, s.bel.grown hg ?_ (fun k e => by have := hq k e; omega)⟩
  have := (Array.getElem?_eq_some_iff.1 s.mg.pa).1
  omega
theorem Ms.nextA {w0 w : World} {B PA NA PB NB G H : Nat} {a b : Option Addr} {n m ca cb : Nat} {la lb : List Int} {i k : Nat} {q : Value} {c : Nat} {O : List Int} (s : Ms w0 w B PA NA PB NB G H a b n m ca cb la lb i k q c O) (L : Lays B PA NA PB NB G H a b) {w' : World} (hg : w.grownBy w' (some NA)) (hn : w'.heap[NA]? = some (.cells #[.int .i64 ((i + 1 + 1 : Nat) : Int)] 3 (0, 0))) :
    Tri w' G (fn la (i * 3)) (fn la (i * 3 + 1)) (fn la (i * 3 + 2)) ∧ Ms w0 (((w'.setCell ⟨G, 0, none⟩ (.int .i64 (fn la ((i + 1) * 3)))).setCell ⟨G, 1, none⟩ (.int .i64 (fn la ((i + 1) * 3 + 1)))).setCell ⟨G, 2, none⟩ (.int .i64 (fn la ((i + 1) * 3 + 2)))) B PA NA PB NB G H a b n m ca cb la lb (i + 1) k q c O := by
  have h1 := L.g
  have h2 := L.h
  have h3 := L.b0
  have h4 := L.l
  have hg2 := grown_set3 w' G (.int .i64 (fn la ((i + 1) * 3))) (.int .i64 (fn la ((i + 1) * 3 + 1))) (.int .i64 (fn la ((i + 1) * 3 + 2)))
  have t1 : Tri w' G (fn la (i * 3)) (fn la (i * 3 + 1)) (fn la (i * 3 + 2)) := blk_grown hg s.g (fun e => by simp at e; omega)
  have hlt := (Array.getElem?_eq_some_iff.1 s.mg.pa).1
  have hsz := hg.size
  refine ⟨t1, (s.mg.moreA hg hn L.l).grown hg2 (fun k e => by simp at e; omega) L.l, t1.set, blk_grown hg2 (blk_grown hg s.h (fun e => by simp at e; omega)) (fun e => by simp at e; omega), (s.ra.grown hg (fun g o e q => by have := L.a1 g o e; simp at q; omega)).grown hg2 (fun g o e q => by have := L.a1 g o e; simp at q; omega), (s.rb.grown hg (fun g o e q => by have := L.b1 g o e; simp at q; omega)).grown hg2 (fun g o e q => by have := L.b1 g o e; simp at q; omega), (s.out.grown hg (fun k e => by simp at e; omega)).grown hg2 (fun k e => by simp at e; omega), ?_⟩
  exact (s.bel.grown hg (by omega) (fun k e => by simp at e; omega)).grown hg2 (by omega) (fun k e => by simp at e; omega)
theorem Ms.nextB {w0 w : World} {B PA NA PB NB G H : Nat} {a b : Option Addr} {n m ca cb : Nat} {la lb : List Int} {i k : Nat} {q : Value} {c : Nat} {O : List Int} (s : Ms w0 w B PA NA PB NB G H a b n m ca cb la lb i k q c O) (L : Lays B PA NA PB NB G H a b) {w' : World} (hg : w.grownBy w' (some NB)) (hn : w'.heap[NB]? = some (.cells #[.int .i64 ((k + 1 + 1 : Nat) : Int)] 3 (0, 0))) :
    Tri w' H (fn lb (k * 3)) (fn lb (k * 3 + 1)) (fn lb (k * 3 + 2)) ∧ Ms w0 (((w'.setCell ⟨H, 0, none⟩ (.int .i64 (fn lb ((k + 1) * 3)))).setCell ⟨H, 1, none⟩ (.int .i64 (fn lb ((k + 1) * 3 + 1)))).setCell ⟨H, 2, none⟩ (.int .i64 (fn lb ((k + 1) * 3 + 2)))) B PA NA PB NB G H a b n m ca cb la lb i (k + 1) q c O := by
  have h1 := L.g
  have h2 := L.h
  have h3 := L.b0
  have h4 := L.l
  have hg2 := grown_set3 w' H (.int .i64 (fn lb ((k + 1) * 3))) (.int .i64 (fn lb ((k + 1) * 3 + 1))) (.int .i64 (fn lb ((k + 1) * 3 + 2)))
  have t1 : Tri w' H (fn lb (k * 3)) (fn lb (k * 3 + 1)) (fn lb (k * 3 + 2)) := blk_grown hg s.h (fun e => by simp at e; omega)
  have hlt := (Array.getElem?_eq_some_iff.1 s.mg.pa).1
  have hsz := hg.size
  refine ⟨t1, (s.mg.moreB hg hn L.l).grown hg2 (fun k e => by simp at e; omega) L.l, blk_grown hg2 (blk_grown hg s.g (fun e => by simp at e; omega)) (fun e => by simp at e; omega), t1.set, (s.ra.grown hg (fun g o e q => by have := L.a1 g o e; simp at q; omega)).grown hg2 (fun g o e q => by have := L.a1 g o e; simp at q; omega), (s.rb.grown hg (fun g o e q => by have := L.b1 g o e; simp at q; omega)).grown hg2 (fun g o e q => by have := L.b1 g o e; simp at q; omega), (s.out.grown hg (fun k e => by simp at e; omega)).grown hg2 (fun k e => by simp at e; omega), ?_⟩
  exact (s.bel.grown hg (by omega) (fun k e => by simp at e; omega)).grown hg2 (by omega) (fun k e => by simp at e; omega)
theorem Ms.callA {w0 w : World} {B PA NA PB NB G H : Nat} {a b : Option Addr} {n m ca cb : Nat} {la lb : List Int} {i k : Nat} {q : Value} {c : Nat} {O : List Int} (s : Ms w0 w B PA NA PB NB G H a b n m ca cb la lb i k q c O) (L : Lays B PA NA PB NB G H a b) (hi : i + 1 < n) (hn : n ≤ 80) :
    Calls Try.prog 70 #[.pointer (some ⟨NA, 0, none⟩), .pointer (some ⟨PA, 0, none⟩)] w fun e w' => e = .returned (.tuple #[.agg #[.int .i64 (fn la ((i + 1) * 3)), .int .i64 (fn la ((i + 1) * 3 + 1)), .int .i64 (fn la ((i + 1) * 3 + 2))], .bool true]) ∧ w.grownBy w' (some NA) ∧ w'.heap[NA]? = some (.cells #[.int .i64 ((i + 1 + 1 : Nat) : Int)] 3 (0, 0)) := by
  obtain ⟨g, rfl, h1, c0, c1, c2⟩ := s.ra.three hi
  have := L.a1 g 0 rfl
  have h3 := L.b0
  have h4 := L.l
  exact iter_more NA PA g (i + 1) n ca la w s.mg.na s.mg.pa h1 c0 c1 c2 hi (by omega) (by omega) (by omega)
theorem Ms.callB {w0 w : World} {B PA NA PB NB G H : Nat} {a b : Option Addr} {n m ca cb : Nat} {la lb : List Int} {i k : Nat} {q : Value} {c : Nat} {O : List Int} (s : Ms w0 w B PA NA PB NB G H a b n m ca cb la lb i k q c O) (L : Lays B PA NA PB NB G H a b) (hk : k + 1 < m) (hm : m ≤ 80) :
    Calls Try.prog 70 #[.pointer (some ⟨NB, 0, none⟩), .pointer (some ⟨PB, 0, none⟩)] w fun e w' => e = .returned (.tuple #[.agg #[.int .i64 (fn lb ((k + 1) * 3)), .int .i64 (fn lb ((k + 1) * 3 + 1)), .int .i64 (fn lb ((k + 1) * 3 + 2))], .bool true]) ∧ w.grownBy w' (some NB) ∧ w'.heap[NB]? = some (.cells #[.int .i64 ((k + 1 + 1 : Nat) : Int)] 3 (0, 0)) := by
  obtain ⟨g, rfl, h1, c0, c1, c2⟩ := s.rb.three hk
  have := L.b1 g 0 rfl
  have h3 := L.b0
  have h4 := L.l
  exact iter_more NB PB g (k + 1) m cb lb w s.mg.nb s.mg.pb h1 c0 c1 c2 hk (by omega) (by omega) (by omega)
theorem Mg.endA {w : World} {PA NA PB NB n cap k : Nat} {a : Option Addr} {vb : Value} (s : Mg w PA NA PB NB (.slice a n cap) vb n k) :
    Calls Try.prog 70 #[.pointer (some ⟨NA, 0, none⟩), .pointer (some ⟨PA, 0, none⟩)] w fun e w' => e = .returned (.tuple #[.agg #[.int .i64 0, .int .i64 0, .int .i64 0], .bool false]) ∧ Below w.heap.size w w' := iter_end NA PA n cap a w s.na s.pa
theorem Mg.endB {w : World} {PA NA PB NB n cap k : Nat} {b : Option Addr} {va : Value} (s : Mg w PA NA PB NB va (.slice b n cap) k n) :
    Calls Try.prog 70 #[.pointer (some ⟨NB, 0, none⟩), .pointer (some ⟨PB, 0, none⟩)] w fun e w' => e = .returned (.tuple #[.agg #[.int .i64 0, .int .i64 0, .int .i64 0], .bool false]) ∧ Below w.heap.size w w' := iter_end NB PB n cap b w s.nb s.pb
end Go.Proofs.Ytgjhhfmhaalcnaa
