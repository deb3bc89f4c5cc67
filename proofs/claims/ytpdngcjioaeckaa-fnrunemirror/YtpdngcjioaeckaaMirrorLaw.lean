import Derived.Test.YtpdngcjioaeckaaDraw4
import Derived.Test.YtpdngcjioaeckaaMate
import Derived.Test.YtpdngcjioaeckaaBidiImpl
namespace Go.Proofs.Ytpdngcjioaeckaa
open Go.ChangeShapes Go.WideShapes Go.ChangeAt Go.RowKit
set_option linter.unusedSimpArgs false

theorem mate_cases (r : Int) : (mate r = 0 ∧ r ≠ 40 ∧ r ≠ 41 ∧ r ≠ 91 ∧ r ≠ 93 ∧ r ≠ 123 ∧ r ≠ 125) ∨ r = 40 ∨ r = 41 ∨ r = 91 ∨ r = 93 ∨ r = 123 ∨ r = 125 := by
  by_cases h : r = 40 ∨ r = 41 ∨ r = 91 ∨ r = 93 ∨ r = 123 ∨ r = 125
  · exact .inr h
  · left
    refine ⟨?_, by omega, by omega, by omega, by omega, by omega, by omega⟩
    unfold mate
    repeat (rw [if_neg (by omega)])
theorem mirror_mirror (r : Int) : mirror (mirror r) = r := by
  rcases mate_cases r with ⟨h, h1, h2, h3, h4, h5, h6⟩ | rfl | rfl | rfl | rfl | rfl | rfl
  · by_cases a : r = 60
    · subst a; decide
    · by_cases b : r = 62
      · subst b; decide
      · have e : mirror r = r := by simp [mirror, h, a, b]
        rw [e, e]
  all_goals decide
theorem bidi_mirror (r : Int) : bidi (mirror r) = bidi r := by
  rcases mate_cases r with ⟨h, h1, h2, h3, h4, h5, h6⟩ | rfl | rfl | rfl | rfl | rfl | rfl
  · by_cases a : r = 60
    · subst a; decide
    · by_cases b : r = 62
      · subst b; decide
      · have e : mirror r = r := by simp [mirror, h, a, b]
        rw [e]
  all_goals decide
theorem mate_mate (r : Int) (h : mate r ≠ 0) : mate (mate r) = r ∧ mate r = mirror r := by
  refine ⟨?_, by simp [mirror, h]⟩
  rcases mate_cases r with ⟨h0, _⟩ | rfl | rfl | rfl | rfl | rfl | rfl
  · exact absurd h0 h
  all_goals decide

set_option maxHeartbeats 1000000 in
theorem drawMirror (a : Option Addr) (len cap : Nat) (w : World) (h : Bytes w a len cap) :
    Calls Try.prog 6 #[.slice a len cap] w fun e w' => (∃ x : Int, e = .returned (.int .i64 x)) ∧ Below w.heap.size w w' := by
  go_enter Try.func6, Try.ntmps6
  go_wp2_with fail
  refine (open_any a len cap w h).mono ?_
  rintro e w1 ⟨rfl, hr, hb⟩
  have hl1 := hr.lt
  go_wp2_with fail
  refine (rune_any _ 0 _ hr (by omega)).mono ?_
  rintro e w2 ⟨⟨x, rfl⟩, p, hp, hW⟩
  have hR2 := hW.rd
  go_wp2_with fail
  refine (one_any _ p _ _ _ _ hR2 (by omega) (by kernel_rfl) (by rfl) (by omega) (by omega)).mono ?_
  rintro e w3 ⟨⟨y, rfl⟩, hW3⟩
  have hR3 := hW3.rd
  have hs3 := hR3.lt
  go_wp2_with fail
  refine (pick_went _ (p + 1) _ _ (hR3.alloc _) (by omega) (by omega) (by omega)).mono ?_
  rintro e w4 ⟨⟨k, rfl, hk⟩, hW4, hsz⟩
  have hB : Below w.heap.size w w4 := by
    refine (hb.trans ((hW.trans hW3).below (Nat.le_refl _) hl1)).trans ?_
    have h5 : Went w3 w4 w.heap.size (p + 1 + 1) := ⟨hW4.rd, grown_trans (grown_alloc w3 _ _) hW4.gr⟩
    exact h5.below (Nat.le_refl _) hs3
  have hblk : w4.heap[w3.heap.size]? = _ := hW4.gr.block w3.heap.size (by simp) (by simp; omega)
  have hc0 : w4.cell? ⟨w3.heap.size, 0, none⟩ = some (.int .i64 x) := by
    rw [World.cell?_of_block (a := ⟨w3.heap.size, 0, none⟩) hblk]; simp
  have hc1 : w4.cell? ⟨w3.heap.size, 1, none⟩ = some (.int .i64 y) := by
    rw [World.cell?_of_block (a := ⟨w3.heap.size, 1, none⟩) hblk]; simp
  clear hblk hW4 hsz hR3 hR2 hW hW3 hr hb
  by_cases hk0 : k = 0
  · subst hk0
    go_wp2_with fail
    go_ret
    exact ⟨⟨_, rfl⟩, hB⟩
  · obtain rfl : k = 1 := by omega
    go_wp2_with fail
    go_ret
    exact ⟨⟨_, rfl⟩, hB⟩
end Go.Proofs.Ytpdngcjioaeckaa
