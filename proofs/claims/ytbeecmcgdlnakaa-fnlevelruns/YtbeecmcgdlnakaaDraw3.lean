import Derived.Test.YtbeecmcgdlnakaaDraw2
namespace Go.Proofs.Ytbeecmcgdlnakaa
open Go.ChangeShapes Go.WideShapes Go.ChangeAt Go.RowKit
set_option linter.unusedSimpArgs false

theorem Went.refl {w : World} {R p : Nat} (h : Rd w R p) : Went w w R p := ⟨h, ⟨rfl, rfl, rfl, Nat.le_refl _, fun _ _ _ => rfl⟩⟩
theorem Went.trans {a b c : World} {R p q : Nat} (h : Went a b R p) (k : Went b c R q) : Went a c R q := ⟨k.rd, grown_trans h.gr k.gr⟩
theorem Went.own {w wr w1 : World} {R p B : Nat} {v : Value} {l : List Int} (h : Went w wr R p) (hg : wr.grownBy w1 v.ownBlock) (ho : OwnI wr B v l) (hB : w.heap.size ≤ B) (hR : R < w.heap.size) : Went w w1 R p :=
  ⟨h.rd.beside hg (fun k hk => by have := (ho.lt k hk).1; omega), grown_own h.gr hg (fun k hk => by have := (ho.lt k hk).1; omega)⟩
theorem Went.below {w w' : World} {R p B : Nat} (h : Went w w' R p) (hB : B ≤ R) (hR : R < w.heap.size) : Below B w w' :=
  ⟨h.gr.os, h.gr.tape, h.gr.output, h.gr.size, fun k hk => h.gr.block k (by omega) (fun e => by simp at e; omega)⟩

def lenOf : Value → Nat
  | .slice _ n _ => n
  | _ => 0

set_option maxHeartbeats 4000000 in
theorem runes_any (R p : Nat) (w : World) (hr : Rd w R p) (hp : p ≤ 90000) :
    Calls Try.prog 50 #[.pointer (some ⟨R, 0, none⟩)] w fun e w' => (∃ v l, e = .returned v ∧ OwnI w' w.heap.size v l ∧ l.length ≤ 80) ∧ ∃ p', p' ≤ p + 200 ∧ Went w w' R p' := by
  have hlt := hr.lt
  go_enter Try.func50, Try.ntmps50
  go_wp2_with fail
  refine (pick_went R p _ _ (hr.alloc _) (by omega) (by omega) (by omega)).mono ?_
  rintro e w1 ⟨⟨n, rfl, hn⟩, hW, hsz⟩
  have hW0 : Went w w1 R (p + 1) := ⟨hW.rd, grown_trans (grown_alloc w _ _) hW.gr⟩
  have hO : OwnI w1 w.heap.size (.slice (some ⟨w.heap.size, 0, none⟩) 0 0) [] := (own_empty w w.heap.size 3 (Nat.le_refl _) rfl).went hW hlt
  clear hW hsz
  go_wp2_with fail
  go_loopw [3, 4] (fun q i wr => ∃ (k : Nat) (l : List Int) (p' : Nat), i = .int .i64 k ∧ OwnI wr w.heap.size q l ∧ l.length + k ≤ 23 ∧ p' + 2 * k ≤ p + 47 ∧ Went w wr R p') (fun _ i _ => (intOf i).toNat)
  case atStart => exact ⟨n, [], p + 1, rfl, hO, by simp; omega, by omega, hW0⟩
  case round =>
    obtain ⟨k, l, p', rfl, hown, hlen, hpp, hwent⟩ := hrel
    have hsz := hwent.gr.size
    by_cases hk : k = 0
    · subst hk
      go_wp2_with fail
      refine (pick_went R p' _ _ hwent.rd (by omega) (by omega) (by omega)).mono ?_
      rintro e w2 ⟨⟨m, rfl, hm⟩, hW2, hsz2⟩
      have hW3 := hwent.trans hW2
      have hown2 := hown.went hW2 hlt
      clear hW2 hsz2
      by_cases hm0 : m = 0
      · subst hm0
        go_wp2_with fail
        go_loopw [3] (fun q wr => ∃ (l : List Int) (p' : Nat), (∃ a cap, q = .slice a l.length cap) ∧ OwnI wr w.heap.size q l ∧ l.length ≤ 80 ∧ p' + (80 - l.length) ≤ p + 150 ∧ Went w wr R p') (fun q _ => 80 - lenOf q)
        case atStart =>
          refine ⟨l, p' + 1, ?_, hown2, by omega, by omega, hW3⟩
          rcases hown2.forms with ⟨rfl, rfl⟩ | ⟨g, cap, rfl, _⟩
          · exact ⟨_, _, rfl⟩
          · exact ⟨_, _, rfl⟩
        case round =>
          obtain ⟨l, p', ⟨a, cap, rfl⟩, hown, hlen, hpp, hwent⟩ := hrel
          have hR := hwent.rd
          have hsw := hwent.gr.size
          by_cases h80 : l.length < 80
          · have h80i : (l.length : Int) < 80 := by omega
            go_wp2_with fail
            refine (one_any R p' _ _ _ _ hR (by omega) (by kernel_rfl) (by rfl) (by omega) (by omega)).mono ?_
            rintro e w4 ⟨⟨x, rfl⟩, hW4⟩
            have hW5 := hwent.trans hW4
            have hown4 := hown.went hW4 hlt
            have hs4 := hW5.gr.size
            clear hW4
            go_wp2_with (at_builtin; refine own_append (.tmp 23) (.tmp 27) hown4 (by omega) hs4 rfl rfl rfl rfl ?_; intro v' w5 hown5 hgr5)
            have hl5 : (l ++ [x]).length = l.length + 1 := by simp
            obtain ⟨g, cp, rfl⟩ : ∃ g cp, v' = .slice g (l ++ [x]).length cp := by
              rcases hown5.forms with ⟨_, h⟩ | ⟨g, cap, h, _⟩
              · simp at h
              · exact ⟨_, _, h⟩
            go_roundw
            case rel => exact ⟨l ++ [x], p' + 1, ⟨_, _, rfl⟩, hown5, by omega, by omega, hW5.own hgr5 hown4 (Nat.le_refl _) hlt⟩
            case measure => simp only [lenOf]; omega
          · have h80i : ¬ (l.length : Int) < 80 := by omega
            go_wp2_with fail
            go_ret
            exact ⟨⟨_, rfl, l, hown, by omega⟩, p', by omega, hwent⟩
      · have hmb : ((m : Int) == 0) = false := by simp; omega
        go_wp2_with fail
        go_ret
        exact ⟨⟨_, l, rfl, hown2, by omega⟩, p' + 1, by omega, hW3⟩
    · obtain ⟨j, rfl⟩ : ∃ j, k = j + 1 := ⟨k - 1, by omega⟩
      go_wp2_with fail
      refine (rune_any R p' _ hwent.rd (by omega)).mono ?_
      rintro e w2 ⟨⟨x, rfl⟩, p2, hp2, hW2⟩
      have hW3 := hwent.trans hW2
      have hown2 := hown.went hW2 hlt
      have hs2 := hW3.gr.size
      clear hW2
      go_wp2_with (at_builtin; refine own_append (.tmp 12) (.tmp 15) hown2 (by omega) hs2 rfl rfl rfl rfl ?_; intro v' w3 hown3 hgr3)
      go_roundw
      case rel => exact ⟨j, l ++ [x], p2, by go_num, hown3, by simp; omega, by omega, hW3.own hgr3 hown2 (Nat.le_refl _) hlt⟩
      case measure => simp only [intOf]; omega
end Go.Proofs.Ytbeecmcgdlnakaa
