import Derived.Test.YtbeecmcgdlnakaaDraw4
import Derived.Test.YtbeecmcgdlnakaaAppendAt
namespace Go.Proofs.Ytbeecmcgdlnakaa
open Go.ChangeShapes Go.WideShapes Go.ChangeAt Go.RowKit
set_option linter.unusedSimpArgs false
set_option linter.unusedVariables false

theorem four_gt {w : World} {R : Nat} {a b c d : Int} {k : Nat} {T : TypeId} (h : w.heap[R]? = some (.cells #[.int .i64 a, .int .i64 b, .int .i64 c, .int .i64 d] T (0, 0))) (hk : k < 4) : ∃ x : Int, w.cell? ⟨R, k, none⟩ = some (.int .i64 x) := by
  rw [cell_of_row w R k _ _ _ h]
  rcases (by omega : k = 0 ∨ k = 1 ∨ k = 2 ∨ k = 3) with e | e | e | e
  all_goals (subst e; exact ⟨_, rfl⟩)
set_option maxHeartbeats 4000000 in
theorem drawMates (a : Option Addr) (len cap : Nat) (w : World) (h : Bytes w a len cap) :
    Calls Try.prog 19 #[.slice a len cap] w fun e w' => (∃ v1 v2 l c, e = .returned (.tuple #[v1, v2]) ∧ OwnI w' w.heap.size v1 l ∧ OwnI w' w.heap.size v2 c ∧ l.length ≤ 81 ∧ c.length ≤ 82) ∧ Below w.heap.size w w' := by
  go_enter Try.func19, Try.ntmps19
  go_wp2_with fail
  refine (open_any a len cap w h).mono ?_
  rintro e w1 ⟨rfl, hR, hB⟩
  have hlt := hR.lt
  have hsz := hB.size
  obtain ⟨R, hRR⟩ : ∃ R, w.heap.size = R := ⟨_, rfl⟩
  have HB : Hid (Below R w w1) := by rw [← hRR]; exact hB
  rw [hRR] at hR hlt hsz ⊢
  have HRR : Hid (w.heap.size = R) := hRR
  clear hB hRR
  go_wp2_with fail
  refine (pick_went R 0 _ _ ((hR.alloc _).alloc _) (by omega) (by omega) (by omega)).mono ?_
  rintro e w2 ⟨⟨n, rfl, hn⟩, hW, hz⟩
  have hV : Went w1 w2 R 1 := ⟨hW.rd, grown_trans (grown_alloc w1 _ _) (grown_trans (grown_alloc _ _ _) hW.gr)⟩
  have hO1 : OwnI w2 w1.heap.size (.slice (some ⟨w1.heap.size, 0, none⟩) 0 0) [] := OwnI.went (World.ownsRow.alloc (own_empty w1 w1.heap.size 3 (Nat.le_refl _) rfl) _) hW hlt
  have hO2 : OwnI w2 w1.heap.size (.slice (some ⟨w1.heap.size + 1, 0, none⟩) 0 0) [] := by
    have := own_empty (w1.alloc (.cells #[] 3)) w1.heap.size 3 (by simp) rfl
    rw [show (w1.alloc (.cells #[] 3)).heap.size = w1.heap.size + 1 by simp] at this
    exact this.went hW hlt
  clear hW hz
  go_wp2_with fail
  go_loopw [5, 6, 7] (fun v5 v6 i wr => ∃ (k : Nat) (l c : List Int) (p' : Nat), i = .int .i64 k ∧ Hid (OwnI wr w1.heap.size v5 l) ∧ Hid (OwnI wr w1.heap.size v6 c) ∧ Hid (Apart v5 v6) ∧ l.length + k ≤ 13 ∧ c.length + k ≤ 13 ∧ p' + 2 * k ≤ 60 ∧ Hid (Went w1 wr R p')) (fun _ _ i _ => (intOf i).toNat)
  case atStart => exact ⟨n, [], [], 1, rfl, hO1, hO2, fun k h1 h2 => by simp [Value.ownBlock] at h1 h2; omega, by simp; omega, by simp; omega, by omega, hV⟩
  case round =>
    obtain ⟨k, l, c, p', rfl, ho5, ho6, hap, hl, hc, hpp, hwent⟩ := hrel
    have hszr := hwent.out.gr.size
    by_cases hk : k = 0
    · subst hk
      go_wp2_with fail
      refine (pick_went R p' _ _ hwent.out.rd (by omega) (by omega) (by omega)).mono ?_
      rintro e w3 ⟨⟨m, rfl, hm⟩, hW3, hz3⟩
      have hV3 := hwent.out.trans hW3
      have o5 := ho5.out.went hW3 hlt
      have o6 := ho6.out.went hW3 hlt
      have hs3 := hV3.gr.size
      clear hW3 hz3
      by_cases hm0 : m = 0
      · subst hm0
        go_wp2_with (at_builtin; refine own_append_at (.tmp 35) (.tmp 36) o6 (by omega) hs3 rfl rfl rfl rfl ?_; intro v' w4 hown4 hgr4 hv4)
        go_ret2
        exact ⟨⟨_, _, l, _, rfl, (o5.apart hgr4 (fun q h1 h2 => hap.out q h2 h1)).mono (by rw [HRR.out]; omega), hown4.mono (by rw [HRR.out]; omega), by omega, by simp; omega⟩, by rw [HRR.out]; exact HB.out.trans ((hV3.own hgr4 o6 (Nat.le_refl _) hlt).below (Nat.le_refl _) hlt)⟩
      · have hmb : ((m : Int) == 0) = false := by simp; omega
        go_wp2_with fail
        go_ret2
        exact ⟨⟨_, _, l, c, rfl, o5.mono (by rw [HRR.out]; omega), o6.mono (by rw [HRR.out]; omega), by omega, by omega⟩, by rw [HRR.out]; exact HB.out.trans (hV3.below (Nat.le_refl _) hlt)⟩
    · obtain ⟨j, rfl⟩ : ∃ j, k = j + 1 := ⟨k - 1, by omega⟩
      go_wp2_with fail
      refine (one_any R p' _ _ _ _ hwent.out.rd (by omega) (by kernel_rfl) (by rfl) (by omega) (by omega)).mono ?_
      rintro e w3 ⟨⟨x1, rfl⟩, hW3⟩
      have hV3 := hwent.out.trans hW3
      have o5 := ho5.out.went hW3 hlt
      have o6 := ho6.out.went hW3 hlt
      have hs3 := hV3.gr.size
      clear hW3
      go_wp2_with (at_builtin; refine own_append_at (.tmp 18) (.tmp 22) o5 (by omega) hs3 rfl rfl rfl rfl ?_; intro v' w4 hown4 hgr4 hv4)
      have hV4 := hV3.own hgr4 o5 (Nat.le_refl _) hlt
      have q6 := o6.apart hgr4 hap.out
      have hap4 : Apart v' u6 := Apart.next hap.out o6 hv4
      have hs4 := hV4.gr.size
      refine (pick_went R (p' + 1) _ _ (hV4.rd.alloc _) (by omega) (by omega) (by omega)).mono ?_
      rintro e w5 ⟨⟨x4, rfl, hx4⟩, hW5, hz5⟩
      have hV5 : Went w1 w5 R (p' + 1 + 1) := ⟨hW5.rd, grown_trans hV4.gr (grown_trans (grown_alloc w4 _ _) hW5.gr)⟩
      have r5 : OwnI w5 w1.heap.size v' (l ++ [x1]) := OwnI.went (World.ownsRow.alloc hown4 _) hW5 hlt
      have r6 : OwnI w5 w1.heap.size u6 c := OwnI.went (World.ownsRow.alloc q6 _) hW5 hlt
      have hs5 := hV5.gr.size
      obtain ⟨x5, hx5⟩ : ∃ x : Int, w5.cell? ⟨w4.heap.size, x4, none⟩ = some (.int .i64 x) := by
        refine four_gt (T := 3) (a := 13) (b := 13) (c := 13) (d := 1) ?_ (by omega)
        rw [hW5.gr.block _ (by simp) (by simp; omega)]
        show (w4.heap.push _)[w4.heap.size]? = _
        simp
      have hx4i : (x4 : Int) < 4 := by omega
      clear hW5 hz5 q6 hown4 hgr4 hv4 o5 o6
      go_wp2_with (at_builtin; refine own_append_at (.tmp 24) (.tmp 30) r6 (by omega) hs5 rfl rfl rfl rfl ?_; intro v6' w6 hown6 hgr6 hv6)
      go_roundw
      case rel => exact ⟨j, l ++ [x1], c ++ [x5], p' + 1 + 1, by go_num, r5.apart hgr6 (fun q h1 h2 => hap4 q h2 h1), hown6, (Apart.next hap4.symm r5 hv6).symm, by simp; omega, by simp; omega, by omega, hV5.own hgr6 r6 (Nat.le_refl _) hlt⟩
      case measure => simp only [intOf]; omega
end Go.Proofs.Ytbeecmcgdlnakaa
