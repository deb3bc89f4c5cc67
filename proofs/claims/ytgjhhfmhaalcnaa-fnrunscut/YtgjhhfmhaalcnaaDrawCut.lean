import Derived.Test.YtgjhhfmhaalcnaaDrawW
import Derived.Test.YtgjhhfmhaalcnaaCutSpec
namespace Go.Proofs.Ytgjhhfmhaalcnaa
open Go.ChangeShapes Go.WideShapes Go.ChangeAt Go.RowKit
set_option linter.unusedSimpArgs false

theorem OwnR.went {w w' : World} {R p : Nat} {v : Value} {l : List Int} {B n : Nat} (h : OwnR w B v n l) (hW : Went w w' R p) (hR : R < B) : OwnR w' B v n l :=
  h.kept fun k hk => hW.gr.block k (h.lt k hk).2 (fun e => by have := (h.lt k hk).1; simp at e; omega)
theorem Went.ownR {w w1 w' : World} {R p : Nat} {v : Value} {l : List Int} {B n : Nat} (hW : Went w w1 R p) (hg : w1.grownBy w' v.ownBlock) (ho : OwnR w1 B v n l) (hB : w.heap.size ≤ B) (hR : R < w.heap.size) : Went w w' R p := by
  have hne : ∀ k, v.ownBlock = some k → B ≤ k := fun k hk => (ho.lt k hk).1
  refine ⟨?_, ⟨hg.os.trans hW.gr.os, hg.tape.trans hW.gr.tape, hg.output.trans hW.gr.output, Nat.le_trans hW.gr.size hg.size, fun k hk h => ?_⟩⟩
  · exact hW.rd.beside hg (fun k hk => by have := hne k hk; omega)
  · rw [hg.block k (Nat.lt_of_lt_of_le hk hW.gr.size) (fun e => by have := hne k e.symm; omega)]
    exact hW.gr.block k hk h

set_option maxHeartbeats 2000000 in
theorem runs14 (R p count : Nat) (w : World) (hr : Rd w R p) (hp : p ≤ 80000) (hc : count ≤ 81) :
    Calls Try.prog 40 #[.pointer (some ⟨R, 0, none⟩), .int .i64 (count : Int)] w fun e w' => (∃ v n l, e = .returned v ∧ OwnR w' w.heap.size v n l ∧ n ≤ count) ∧ ∃ p', p' ≤ p + 2 * count ∧ Went w w' R p' := by
  have hlt := hr.lt
  have HE : Hid (OwnR (w.alloc (.cells #[] 38)) w.heap.size (.slice (some ⟨w.heap.size, 0, none⟩) 0 0) 0 []) := emptyRR w w.heap.size (Nat.le_refl _)
  have HW0 : Hid (Went w (w.alloc (.cells #[] 38)) R p) := ⟨hr.alloc _, grown_alloc w _ _⟩
  clear hr
  go_enter Try.func40, Try.ntmps40
  go_wp2_with fail
  go_loopw [5, 6] (fun q i wr => ∃ (k c p' : Nat) (l : List Int), k ≤ count ∧ i = .int .i64 k ∧ c ≤ k ∧ p' ≤ p + 2 * k ∧ OwnR wr w.heap.size q c l ∧ Went w wr R p') (fun _ i _ => count - (intOf i).toNat)
  case atStart => exact ⟨0, 0, p, [], Nat.zero_le _, rfl, Nat.le_refl _, by omega, HE.out, HW0.out⟩
  case round =>
    obtain ⟨k, c, p', l, hk, rfl, hck, hpp, hown, hwent⟩ := hrel
    by_cases hlk : k < count
    · have hki : (k : Int) < (count : Int) := by omega
      go_wp2_with fail
      refine (pick_went R p' _ _ hwent.rd (by omega) (by omega) (by omega)).mono ?_
      rintro e w3 ⟨⟨x, rfl, hx⟩, hW3, hsz3⟩
      have hW4 := hwent.trans hW3
      have hown4 := hown.went hW3 hlt
      clear hW3 hsz3
      by_cases hto : k + 1 + x ≤ count
      · have hti : (k : Int) + 1 + (x : Int) ≤ (count : Int) := by omega
        go_wp2_with fail
        refine (pick_went R (p' + 1) _ _ hW4.rd (by omega) (by omega) (by omega)).mono ?_
        rintro e w5 ⟨⟨x5, rfl, hx5⟩, hW5, hsz5⟩
        have hW6 := hW4.trans hW5
        have hown6 := hown4.went hW5 hlt
        have hs6 := hW6.gr.size
        clear hW5 hsz5
        go_wp2_with (at_builtin; refine own_appendR (.tmp 21) (.tmp 27) hown6 (by omega) hs6 rfl rfl rfl rfl ?_; intro v' w7 o7 g7)
        exact ⟨⟨k + 1 + x, c + 1, p' + 1 + 1, _, hto, by go_num, by omega, by omega, o7, hW6.ownR g7 hown6 (Nat.le_refl _) hlt⟩, by simp only [intOf]; omega⟩
      · have hti : (count : Int) < (k : Int) + 1 + (x : Int) := by omega
        go_wp2_with fail
        refine (pick_went R (p' + 1) _ _ hW4.rd (by omega) (by omega) (by omega)).mono ?_
        rintro e w5 ⟨⟨x5, rfl, hx5⟩, hW5, hsz5⟩
        have hW6 := hW4.trans hW5
        have hown6 := hown4.went hW5 hlt
        have hs6 := hW6.gr.size
        clear hW5 hsz5
        go_wp2_with (at_builtin; refine own_appendR (.tmp 21) (.tmp 27) hown6 (by omega) hs6 rfl rfl rfl rfl ?_; intro v' w7 o7 g7)
        exact ⟨⟨count, c + 1, p' + 1 + 1, _, Nat.le_refl _, by go_num, by omega, by omega, o7, hW6.ownR g7 hown6 (Nat.le_refl _) hlt⟩, by simp only [intOf]; omega⟩
    · have e : k = count := by omega
      subst e
      go_wp2_with fail
      go_ret
      exact ⟨⟨_, c, l, rfl, hown, hck⟩, p', hpp, hwent⟩

set_option maxHeartbeats 4000000 in
theorem drawCut (a : Option Addr) (len cap : Nat) (w : World) (h : Bytes w a len cap) :
    Calls Try.prog 15 #[.slice a len cap] w fun e w' => (∃ v u n m la lb, e = .returned (.tuple #[v, u]) ∧ OwnR w' w.heap.size v n la ∧ OwnR w' w.heap.size u m lb ∧ n ≤ 81 ∧ m ≤ 81) ∧ Below w.heap.size w w' := by
  go_enter Try.func15, Try.ntmps15
  go_wp2_with fail
  refine (open_any a len cap w h).mono ?_
  rintro e w1 ⟨rfl, hr, hb⟩
  have hl1 := hr.lt
  go_wp2_with fail
  refine (pick_went _ 0 _ _ hr (by omega) (by omega) (by omega)).mono ?_
  rintro e w2 ⟨⟨n, rfl, hn⟩, W2, hsz⟩
  have s2 := W2.gr.size
  clear hsz
  go_wp2_with fail
  refine (runs14 _ (0 + 1) n _ W2.rd (by omega) (by omega)).mono ?_
  rintro e w3 ⟨⟨v, c, la, rfl, ov, hc⟩, p3, hp3, W3⟩
  have W3' := W2.trans W3
  have s3 := W3'.gr.size
  have HVL : Hid (∀ k, v.ownBlock = some k → k < w3.heap.size) := fun k hk => (ov.lt k hk).2
  clear W2 W3
  go_wp2_with fail
  refine (runs14 _ p3 n _ W3'.rd (by omega) (by omega)).mono ?_
  rintro e w4 ⟨⟨u, d, lb, rfl, ou, hd⟩, p4, hp4, W4⟩
  have W4' := W3'.trans W4
  have s4 := W4'.gr.size
  have HUL : Hid (∀ k, u.ownBlock = some k → w3.heap.size ≤ k) := fun k hk => (ou.lt k hk).1
  replace ov := (ov.mono s2).went W4 hl1
  clear W3' W4
  go_wp2_with fail
  refine (pick_went _ p4 _ _ W4'.rd (by omega) (by omega) (by omega)).mono ?_
  rintro e w5 ⟨⟨x, rfl, hx⟩, W5, hsz⟩
  have W5' := W4'.trans W5
  have s5 := W5'.gr.size
  replace ov := ov.went W5 hl1
  replace ou := (ou.mono s3).went W5 hl1
  clear W4' W5 hsz
  have HV : Hid _ := ov
  have HU : Hid _ := ou
  have HW : Hid _ := W5'
  obtain ⟨av, cv, rfl⟩ : ∃ av cv, v = .slice av c cv := by obtain ⟨a, c', h, _⟩ := ov.rr; exact ⟨a, c', h⟩
  obtain ⟨au, cu, rfl⟩ : ∃ au cu, u = .slice au d cu := by obtain ⟨a, c', h, _⟩ := ou.rr; exact ⟨a, c', h⟩
  by_cases x0 : x = 0
  · subst x0
    clear ov ou W5'
    go_wp2_with fail
    refine (runs14 _ (p4 + 1) (n + 1) _ HW.out.rd (by omega) (by omega)).mono ?_
    rintro e w6 ⟨⟨u6, d6, lb6, rfl, ou6, hd6⟩, p6, hp6, W6⟩
    have W6' := HW.out.trans W6
    have ov6 := (OwnR.mono HV.out (Nat.le_refl _)).went W6 hl1
    obtain ⟨au6, cu6, rfl⟩ : ∃ au cu, u6 = .slice au d6 cu := by obtain ⟨a, c', h, _⟩ := ou6.rr; exact ⟨a, c', h⟩
    have HV6 : Hid _ := ov6
    have HU6 : Hid _ := ou6
    have HW6 : Hid _ := W6'
    clear ov6 ou6 W6 W6'
    go_wp2_with fail
    exact bodyPost_ret (v := .tuple #[.slice av c cv, .slice au6 d6 cu6]) (by simp [results, Try.results15, go_sem]) rfl ⟨⟨_, _, c, d6, la, lb6, rfl, OwnR.mono HV6.out (by omega), OwnR.mono HU6.out (by omega), by omega, by omega⟩, hb.trans (HW6.out.below (Nat.le_refl _) hl1)⟩
  · by_cases x1 : x = 1
    · subst x1
      by_cases c0 : c = 0
      · subst c0
        clear ov ou W5'
        go_wp2_with fail
        exact bodyPost_ret (v := .tuple #[.slice av 0 cv, .slice au d cu]) (by simp [results, Try.results15, go_sem]) rfl ⟨⟨_, _, 0, d, la, lb, rfl, OwnR.mono HV.out (by omega), OwnR.mono HU.out (by omega), by omega, by omega⟩, hb.trans (HW.out.below (Nat.le_refl _) hl1)⟩
      · have hci : (0 : Int) < (c : Int) := by omega
        obtain ⟨g, rfl⟩ : ∃ g, av = some ⟨g, 0, none⟩ := by
          rcases ov.forms with ⟨_, e⟩ | ⟨g, c', e, _⟩
          · omega
          · simp only [Value.slice.injEq] at e; exact ⟨g, e.1⟩
        have hgl := ov.lt g rfl
        clear ov ou W5'
        go_wp2_with fail
        refine (pick_went _ (p4 + 1) _ _ HW.out.rd (by omega) (by omega) (by omega)).mono ?_
        rintro e w6 ⟨⟨y, rfl, hy⟩, W6, hsz⟩
        have W6' := HW.out.trans W6
        have ov6 := OwnR.went HV.out W6 hl1
        have ou6 := OwnR.went HU.out W6 hl1
        clear W6 hsz
        go_wp2_with fail
        refine (pick_went _ (p4 + 1 + 1) _ _ W6'.rd (by omega) (by omega) (by omega)).mono ?_
        rintro e w7 ⟨⟨y2, rfl, hy2⟩, W7, hsz⟩
        have W7' := W6'.trans W7
        have ov7 := ov6.went W7 hl1
        have ou7 := ou6.went W7 hl1
        have hcell := ov7.cell (y * 3) (by omega)
        have hfr := ov7.frozen (y * 3)
        have HV7 : Hid _ := ov7
        have HU7 : Hid (OwnR w7 w1.heap.size (.slice au d cu) d lb) := ou7
        have HW7 : Hid _ := W7'
        clear ov6 ou6 ov7 ou7 W6' W7 W7' hsz
        go_wp2_with fail
        refine bodyPost_ret (v := .tuple #[.slice (some ⟨g, 0, none⟩) c cv, .slice au d cu]) (by simp [results, Try.results15, go_sem]) rfl ⟨⟨_, _, c, d, _, lb, rfl, OwnR.mono (OwnR.stored HV7.out (y * 3) _) (by omega), OwnR.mono (OwnR.kept HU7.out (fun k hk => heap_setCell_other w7 ⟨g, y * 3, none⟩ k _ ?_)) (by omega), by omega, by omega⟩, Below.setCell (p := ⟨g, y * 3, none⟩) (hb.trans (HW7.out.below (Nat.le_refl _) hl1)) (by show w.heap.size ≤ g; omega) _⟩
        have q1 := HVL.out g rfl
        have q2 := HUL.out k hk
        show k ≠ g
        omega
    · by_cases x2 : x = 2
      · subst x2
        clear ov ou W5'
        go_wp2_with fail
        refine (runs14 _ (p4 + 1) 81 _ HW.out.rd (by omega) (by omega)).mono ?_
        rintro e w6 ⟨⟨v6, c6, la6, rfl, ov6, hc6⟩, p6, hp6, W6⟩
        have W6' := HW.out.trans W6
        have s6 := W6'.gr.size
        clear W6
        go_wp2_with fail
        refine (runs14 _ p6 81 _ W6'.rd (by omega) (by omega)).mono ?_
        rintro e w7 ⟨⟨u7, d7, lb7, rfl, ou7, hd7⟩, p7, hp7, W7⟩
        have W7' := W6'.trans W7
        have ov7 := (ov6.mono s5).went W7 hl1
        obtain ⟨av7, cv7, rfl⟩ : ∃ av cv, v6 = .slice av c6 cv := by obtain ⟨a, c', h, _⟩ := ov7.rr; exact ⟨a, c', h⟩
        obtain ⟨au7, cu7, rfl⟩ : ∃ au cu, u7 = .slice au d7 cu := by obtain ⟨a, c', h, _⟩ := ou7.rr; exact ⟨a, c', h⟩
        have HV7 : Hid _ := ov7
        have HU7 : Hid _ := ou7
        have HW7 : Hid _ := W7'
        clear ov6 ov7 ou7 W6' W7 W7'
        go_wp2_with fail
        exact bodyPost_ret (v := .tuple #[.slice av7 c6 cv7, .slice au7 d7 cu7]) (by simp [results, Try.results15, go_sem]) rfl ⟨⟨_, _, c6, d7, la6, lb7, rfl, OwnR.mono HV7.out (by omega), OwnR.mono HU7.out (by omega), by omega, by omega⟩, hb.trans (HW7.out.below (Nat.le_refl _) hl1)⟩
      · have q0 : ((x : Int) == 0) = false := by simp; omega
        have q1 : ((x : Int) == 1) = false := by simp; omega
        have q2 : ((x : Int) == 2) = false := by simp; omega
        clear ov ou W5'
        go_wp2_with fail
        exact bodyPost_ret (v := .tuple #[.slice av c cv, .slice au d cu]) (by simp [results, Try.results15, go_sem]) rfl ⟨⟨_, _, c, d, la, lb, rfl, OwnR.mono HV.out (by omega), OwnR.mono HU.out (by omega), by omega, by omega⟩, hb.trans (HW.out.below (Nat.le_refl _) hl1)⟩
end Go.Proofs.Ytgjhhfmhaalcnaa
