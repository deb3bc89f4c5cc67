import Derived.Test.YtobmdefklgkoiaaLkI2
namespace Go.Proofs.Ytobmdefklgkoiaa
open Go.ChangeShapes Go.WideShapes Go.ChangeAt Go.RowKit
set_option linter.unusedSimpArgs false
set_option linter.unusedVariables false

theorem ah_snoc (o : Runs) : ∀ (b : Nat) (x a : Int × Int) (n p : Nat), ahR b x (o ++ [(a, n)]) p = if b + cntR o < p then a else ahR b x o p := by
  induction o with
  | nil => intro b x a n p; by_cases h : b < p <;> simp [ahR, cntR, h]
  | cons y r ih =>
    obtain ⟨c, m⟩ := y
    intro b x a n p
    simp only [List.cons_append, ahR, cntR]
    rw [ih, show b + m + cntR r = b + (m + cntR r) by omega]
    by_cases h : b + (m + cntR r) < p <;> simp [h]
/-- A look in a block of its own. -/
def LkBox (w : World) (G : Nat) (a : Int × Int) : Prop := w.heap[G]? = some (.cells #[.int .i64 a.1, .int .i64 a.2] 71 (0, 0))
theorem LkBox.cells {w : World} {G : Nat} {a : Int × Int} (h : LkBox w G a) : w.cell? ⟨G, 0, none⟩ = some (.int .i64 a.1) ∧ w.cell? ⟨G, 1, none⟩ = some (.int .i64 a.2) ∧ w.frozen? ⟨G, 0, none⟩ = false ∧ w.frozen? ⟨G, 1, none⟩ = false := by
  refine ⟨?_, ?_, ?_, ?_⟩ <;> simp [World.cell?, World.frozen?, LkBox] at h ⊢ <;> simp [h]
theorem LkBox.below {w w' : World} {G : Nat} {a : Int × Int} (h : LkBox w G a) (hb : Below w.heap.size w w') : LkBox w' G a := (hb.block G (Array.getElem?_eq_some_iff.1 h).1).trans h
theorem LkBox.set {w : World} {G : Nat} {a : Int × Int} (h : LkBox w G a) (b : Int × Int) : LkBox ((w.setCell ⟨G, 0, none⟩ (.int .i64 b.1)).setCell ⟨G, 1, none⟩ (.int .i64 b.2)) G b := by
  unfold LkBox at h ⊢
  rw [heap_setCell_same _ G 1 _ _ _ (heap_setCell_same w G 0 _ _ _ h)]
  rfl

set_option maxHeartbeats 2000000 in
theorem ahead_is (v : Value) (R : Runs) (p : Nat) (w : World) (hv : ArgK w v R) (hl : R.length ≤ 1000) (hc : cntR R ≤ 1000000) (hp : p ≤ 1000) :
    Calls Try.prog 43 #[v, .int .i64 (p : Int)] w fun e w' => e = .returned (.agg #[.int .i64 (ahR 0 (10, 0) R p).1, .int .i64 (ahR 0 (10, 0) R p).2]) ∧ Below w.heap.size w w' := by
  obtain ⟨a, n, cap, rfl, hn, hat⟩ : ∃ a n cap, v = .slice a n cap ∧ R.length = n ∧ (n = 0 ∨ ∃ b, a = some ⟨b, 0, none⟩ ∧ b < w.heap.size ∧ ∀ j, j < n * 3 → w.cell? ⟨b, j, none⟩ = some (.int .i64 (fn (flatL R) j))) := by
    rcases hv with ⟨a, cap, rfl, rfl⟩ | ⟨b, cap, rfl, hb, _, _, hat⟩
    · exact ⟨a, 0, cap, rfl, rfl, .inl rfl⟩
    · exact ⟨_, _, cap, rfl, rfl, .inr ⟨b, rfl, hb, hat⟩⟩
  have HAT : Hid _ := hat
  have HN : Hid _ := hn
  rw [hn] at hl
  clear hat hn hv
  go_enter Try.func43, Try.ntmps43
  go_wp2_with fail
  refine (lookBase_is _).mono ?_
  rintro e w1 ⟨rfl, b1⟩
  have hb0 : LkBox w1 w.heap.size (0, 0) := (b1.block w.heap.size (by simp)).trans (World.alloc_heap_new w _)
  obtain ⟨G, hG⟩ : ∃ G, w.heap.size = G := ⟨_, rfl⟩
  have BW : Below w.heap.size w w1 := bstep (below_new w _) b1
  have s1 := BW.size
  have hGs : G < w1.heap.size := (Array.getElem?_eq_some_iff.1 (hG ▸ hb0 : LkBox w1 G (0, 0))).1
  rw [hG] at hb0
  have HG : Hid _ := hG
  have HB0 : Hid _ := hb0
  have HBW : Hid _ := BW
  clear b1 BW hb0
  go_wp2_with fail
  obtain ⟨U, hU⟩ : ∃ U, w1.alloc (.cells #[.int .i64 10, .int .i64 0] 71) = U := ⟨_, rfl⟩
  obtain ⟨H, hH⟩ : ∃ H, w1.heap.size = H := ⟨_, rfl⟩
  have HH : Hid (LkBox U H (10, 0)) := by rw [← hU, ← hH]; exact World.alloc_heap_new w1 _
  have HG0 : Hid (LkBox U G (0, 0)) := by rw [← hU]; exact LkBox.below HB0.out (below_new _ _)
  have HBU : Hid (Below w.heap.size w U) := by rw [← hU]; exact HBW.out.alloc HBW.out.size _
  have HGH : Hid (G < H) := by show _ < _; rw [← hH]; exact hGs
  have HWH : Hid (w.heap.size ≤ G ∧ w.heap.size ≤ H) := ⟨Nat.le_of_eq hG, by rw [← hH]; exact s1⟩
  rw [hU, hH]
  clear hU hG hH s1 hGs
  go_loopw [6, 12] (fun q i wr => ∃ (pre rest : Runs), R = pre ++ rest ∧ q = .int .i64 (cntR pre : Int) ∧ i = .int .i64 (pre.length : Int) ∧ LkBox wr H (ahR 0 (10, 0) pre p) ∧ LkBox wr G (0, 0) ∧ Below w.heap.size w wr) (fun _ i _ => n - (intOf i).toNat)
  case atStart => exact ⟨[], R, rfl, rfl, rfl, HH.out, HG0.out, HBU.out⟩
  case round =>
    obtain ⟨pre, rest, hx, rfl, rfl, hbox, hbox0, hbel⟩ := hrel
    obtain ⟨d0, d1, fr0, fr1⟩ := hbox.cells
    cases rest with
    | nil =>
      have hlen : ¬ ((pre.length : Int) < (n : Int)) := by rw [← HN.out, hx]; simp
      have HX : Hid _ := hx
      clear hx
      obtain ⟨g0, g1, fg0, fg1⟩ := hbox0.cells
      go_wp2_with fail
      refine bodyPost_ret (ret_look rfl _ _ G (ahR 0 (10, 0) pre p).1 (ahR 0 (10, 0) pre p).2 _ rfl (LkBox.set hbox0 (ahR 0 (10, 0) pre p))) rfl ⟨?_, ?_⟩
      · rw [show R = pre by rw [HX.out, List.append_nil]]
      · exact (hbel.setCell (p := ⟨G, 0, none⟩) HWH.out.1 _).setCell (p := ⟨G, 1, none⟩) HWH.out.1 _
    | cons x rest =>
      obtain ⟨⟨s, m⟩, k⟩ := x
      have hlt0 : pre.length < R.length := by rw [hx]; simp
      have hlt : pre.length < n := by rw [← HN.out]; exact hlt0
      have hi : (pre.length : Int) < (n : Int) := by omega
      rcases HAT.out with h0 | ⟨b, rfl, hb, hat⟩
      · omega
      have hsb := hbel.size
      obtain ⟨e0, e1, e2⟩ := fn_flatL R pre.length hlt0
      have ex : R[pre.length] = ((s, m), k) := by simp [hx]
      rw [ex] at e0 e1 e2
      have c0 := (hbel.cell (p := ⟨b, pre.length * 3, none⟩) hb).trans (hat _ (by omega))
      have c1 := (hbel.cell (p := ⟨b, pre.length * 3 + 1, none⟩) hb).trans (hat _ (by omega))
      have c2 := (hbel.cell (p := ⟨b, pre.length * 3 + 2, none⟩) hb).trans (hat _ (by omega))
      rw [e0] at c0
      rw [e1] at c1
      rw [e2] at c2
      have hcn : cntR R = cntR pre + (k + cntR rest) := by rw [hx, cnt_app]; rfl
      have hk1 : (cntR pre : Int) + (k : Int) ≤ 1000000 := by omega
      have HE : Hid (∀ (u : World), LkBox u H (if cntR pre < p then (s, m) else ahR 0 (10, 0) pre p) → LkBox u G (0, 0) → Below w.heap.size w u → ∃ (pre1 rest1 : Runs), R = pre1 ++ rest1 ∧ Value.int .i64 ((cntR pre : Int) + (k : Int)) = .int .i64 (cntR pre1 : Int) ∧ Value.int .i64 ((pre.length : Int) + 1) = .int .i64 (pre1.length : Int) ∧ LkBox u H (ahR 0 (10, 0) pre1 p) ∧ LkBox u G (0, 0) ∧ Below w.heap.size w u) := fun u h1 h2 h3 =>
        ⟨pre ++ [((s, m), k)], rest, by rw [hx]; simp, by rw [cnt_app]; simp [cntR], by simp, by rw [ah_snoc, Nat.zero_add]; exact h1, h2, h3⟩
      have HBX : Hid _ := hbox
      have HB0' : Hid _ := hbox0
      have HBE : Hid _ := hbel
      have hlH : H < wr.heap.size := (Array.getElem?_eq_some_iff.1 hbox).1
      clear e0 e1 e2 ex hx hcn hbox hbox0 hbel hat hlt0
      by_cases hlp : cntR pre < p
      · have hlpi : (cntR pre : Int) < (p : Int) := by omega
        go_wp2_with fail
        refine ⟨HE.out _ ?_ ?_ ?_, by simp only [intOf]; omega⟩
        · rw [if_pos hlp]
          exact LkBox.below (LkBox.set HBX.out (s, m)) (below_new _ _)
        · have hne : G ≠ H := Nat.ne_of_lt HGH.out
          refine LkBox.below ?_ (below_new _ _)
          exact (heap_setCell_other _ ⟨H, 1, none⟩ G _ hne).trans ((heap_setCell_other _ ⟨H, 0, none⟩ G _ hne).trans HB0'.out)
        · have b5 := (HBE.out.setCell (p := ⟨H, 0, none⟩) HWH.out.2 (.int .i64 s)).setCell (p := ⟨H, 1, none⟩) HWH.out.2 (.int .i64 m)
          exact b5.alloc b5.size _
      · have hlpi : ¬ (cntR pre : Int) < (p : Int) := by omega
        go_wp2_with fail
        refine ⟨HE.out _ ?_ ?_ ?_, by simp only [intOf]; omega⟩
        · rw [if_neg hlp]
          exact LkBox.below HBX.out (below_new _ _)
        · exact LkBox.below HB0'.out (below_new _ _)
        · exact HBE.out.alloc HBE.out.size _
end Go.Proofs.Ytobmdefklgkoiaa
