import Derived.Test.YtbjcdogbhnadkavLineAid
import Derived.Test.YtbjcdogbhnadkavLineHitS
import Derived.Deep.RegionWith
namespace Go.Proofs.Ytbjcdogbhnadkav
open Go.ChangeShapes Go.WideShapes Go.ChangeAt Go.RowKit
set_option linter.unusedSimpArgs false

set_option maxHeartbeats 4000000 in
theorem hitWalk (f t d : Int) (a : Option Addr) (n cap : Nat) (l : List Int) (x : Int) (w : World) (hv : ArgGL w a n cap l) :
    Calls Try.prog 5 #[.agg #[.int .i64 f, .int .i64 t, .int .i64 d, .slice a n cap], .int .i64 x] w fun e w' => e = .returned (.bool true) ∧ Below w.heap.size w w' := by
  have HW : Hid (∀ w', Below w.heap.size w w' → ArgGL w' a n cap l) := fun w' b => hv.below b
  by_cases hbig : 1048576 < n
  · have hm : n ≤ maxLen := Nat.le_trans hv.1 hv.2.1
    clear hv
    go_enter Try.func5, Try.ntmps5
    go_wp2_with fail
    refine (szLine_big f t d a n cap _ hbig hm).mono ?_
    rintro e w1 ⟨rfl, b1⟩
    go_wp2_with fail
    go_ret
    exact ⟨rfl, bstep (below_new _ _) b1⟩
  · have hl : n ≤ 1048576 := by omega
    clear hv
    obtain ⟨r, hr⟩ : ∃ r, lineHit (fn l) n f x = r := ⟨_, rfl⟩
    have HR : Hid _ := hr
    clear hr
    go_enter Try.func5, Try.ntmps5
    go_wp2_with fail
    refine (szLine_any f t d a n cap _ hl).mono ?_
    rintro e w1 ⟨rfl, b1⟩
    have i0 := top_cell b1 (B := w.heap.size) rfl 0 rfl
    have i1 := top_cell b1 (B := w.heap.size) rfl 1 rfl
    have i2 := top_cell b1 (B := w.heap.size) rfl 2 rfl
    have i3 := top_cell b1 (B := w.heap.size) rfl 3 rfl
    have B1 := bstep (below_new _ _) b1
    have hn1 : w.heap.size < w1.heap.size := by have := b1.size; simp at this; omega
    clear b1
    go_wp2_with fail
    refine (toLine_any f t d a n cap l _ (HW.out _ B1) hl).mono ?_
    rintro e w2 ⟨⟨g2, rfl, o2⟩, b2⟩
    go_wp2_with fail
    refine (specHit f t d _ n l x _ o2.arg r HR).mono ?_
    rintro e w3 ⟨rfl, b3⟩
    have B3 := bstep b2 b3
    have j0 := (B3.cell (p := ⟨w.heap.size, 0, none⟩) hn1).trans i0
    have j1 := (B3.cell (p := ⟨w.heap.size, 1, none⟩) hn1).trans i1
    have j2 := (B3.cell (p := ⟨w.heap.size, 2, none⟩) hn1).trans i2
    have j3 := (B3.cell (p := ⟨w.heap.size, 3, none⟩) hn1).trans i3
    have BB3 := bstep B1 B3
    have hn3 : w.heap.size < w3.heap.size := by have := B3.size; omega
    clear i0 i1 i2 i3 b2 b3 o2 B3
    go_wp2_with fail
    refine (toLine_any f t d a n cap l _ (HW.out _ BB3) hl).mono ?_
    rintro e w4 ⟨⟨g4, rfl, o4⟩, b4⟩
    have k0 := (b4.cell (p := ⟨w.heap.size, 0, none⟩) hn3).trans j0
    have k1 := (b4.cell (p := ⟨w.heap.size, 1, none⟩) hn3).trans j1
    have k2 := (b4.cell (p := ⟨w.heap.size, 2, none⟩) hn3).trans j2
    have k3 := (b4.cell (p := ⟨w.heap.size, 3, none⟩) hn3).trans j3
    have BB4 := bstep BB3 b4
    have hn4 : w.heap.size < w4.heap.size := by have := b4.size; omega
    have O4 : Hid (OwnG w4 w3.heap.size (.slice (some ⟨g4, 0, none⟩) n n) n l) := o4
    clear j0 j1 j2 j3 b4 o4
    go_wp2_with fail
    refine (implHit f t d _ n l x _ ((OwnG.arg O4.out).below (below_new _ _)) r HR).mono ?_
    rintro e w5 ⟨rfl, b5⟩
    have B5 := bstep (below_new _ _) b5
    have i0 := (B5.cell (p := ⟨w.heap.size, 0, none⟩) hn4).trans k0
    have i1 := (B5.cell (p := ⟨w.heap.size, 1, none⟩) hn4).trans k1
    have i2 := (B5.cell (p := ⟨w.heap.size, 2, none⟩) hn4).trans k2
    have i3 := (B5.cell (p := ⟨w.heap.size, 3, none⟩) hn4).trans k3
    have m0 := top_cell b5 (B := w4.heap.size) rfl 0 rfl
    have m1 := top_cell b5 (B := w4.heap.size) rfl 1 rfl
    have m2 := top_cell b5 (B := w4.heap.size) rfl 2 rfl
    have m3 := top_cell b5 (B := w4.heap.size) rfl 3 rfl
    have BB5 := bstep BB4 B5
    have hn5 : w4.heap.size < w5.heap.size := by have := b5.size; simp at this; omega
    have A5 : Hid (ArgG w5 (.slice (some ⟨g4, 0, none⟩) n n) n l) := (OwnG.arg O4.out).below B5
    clear k0 k1 k2 k3 b5 O4 B5
    go_wp2_with fail
    go_region_with (first | (go_at_call 10; refine (toLine_any f t d a n cap l _ (HW.out _ (bstep BB5 (below_draws w5 1))) hl).mono ?_; rintro e w6 ⟨⟨g6, rfl, o6⟩, b6⟩; have B6 := bstep (below_draws w5 1) b6; have k0 := (B6.cell (p := ⟨w4.heap.size, 0, none⟩) hn5).trans m0; have k1 := (B6.cell (p := ⟨w4.heap.size, 1, none⟩) hn5).trans m1; have k2 := (B6.cell (p := ⟨w4.heap.size, 2, none⟩) hn5).trans m2; have k3 := (B6.cell (p := ⟨w4.heap.size, 3, none⟩) hn5).trans m3) | (go_at_call 12; refine (eqLine_yes f t d _ _ n l _ (ArgG.below A5.out B6) o6.arg (by omega)).mono ?_; rintro e w7 ⟨rfl, b7⟩))
    all_goals (go_wp2_with fail)
    all_goals go_ret
    all_goals exact ⟨rfl, bstep (bstep BB5 B6) b7⟩
end Go.Proofs.Ytbjcdogbhnadkav
