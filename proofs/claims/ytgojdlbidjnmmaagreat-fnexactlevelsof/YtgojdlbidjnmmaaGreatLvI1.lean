import Derived.Test.YtgojdlbidjnmmaaGreatTogI
import Derived.Test.YtgojdlbidjnmmaaGreatLevMath
import Derived.Test.YtgojdlbidjnmmaaGreatPlainFn
import Derived.Test.YtgojdlbidjnmmaaGreatMates
namespace Go.Proofs.YtgojdlbidjnmmaaGreat
open Go.ChangeShapes Go.WideShapes Go.ChangeAt Go.RowKit
set_option linter.unusedSimpArgs false
set_option linter.unusedVariables false

set_option maxHeartbeats 2000000 in
theorem implPick (gq n cq bl ol m cl : Nat) (r : List Nat) (list : List Int) (w : World) (hr : r.length = n) (hn : n ≤ 1000) (hm : m ≤ 1000) (hgq : gq < w.heap.size) (hq : At w gq 0 (natL r)) (hbl : bl < w.heap.size) (hlist : At w bl ol list) (hlm : list.length = m) (hin : ∀ x ∈ r, x < m) :
    Calls Tryz.prog 64 #[.slice (some ⟨gq, 0, none⟩) n cq, .slice (some ⟨bl, ol, none⟩) m cl] w fun e w' => (∃ g, e = .returned (.slice (some ⟨g, 0, none⟩) n n) ∧ OwnI w' w.heap.size (.slice (some ⟨g, 0, none⟩) n n) (pickL r list)) ∧ Below w.heap.size w w' := by
  obtain ⟨i0, hi, hz0, hz1, hz2⟩ := info_parts infoN
  have HR : Hid (r.length = n) := hr
  clear hr
  have HC : Hid (∀ W, Below w.heap.size w W → ∀ j, (hj : j < n) → W.cell? ⟨gq, j, none⟩ = some (.int .i64 ((r[j]'(by rw [HR.out]; exact hj) : Nat) : Int)) ∧ W.cell? ⟨bl, ol + (r[j]'(by rw [HR.out]; exact hj)), none⟩ = some (.int .i64 (fn list (r[j]'(by rw [HR.out]; exact hj)))) ∧ (r[j]'(by rw [HR.out]; exact hj)) < m) := fun W hW j hj => by
    have hjr : j < r.length := by rw [HR.out]; exact hj
    have hx := hin _ (List.getElem_mem hjr)
    refine ⟨?_, ?_, hx⟩
    · have := (hq.below hW hgq) j (by rw [natL_len]; exact hjr)
      rw [Nat.zero_add, fn_natL hjr] at this; exact this
    · exact (hlist.below hW hbl) _ (by omega)
  clear hq hlist hlm hin hgq hbl
  go_enter Tryz.func64, Tryz.ntmps64
  go_wp2_with (first | (at_make; refine wpList_make_full _ rfl _ _ 23 rfl w.heap.size 3 i0 (.int .i64 0) 1 Tryz.underlying23 hi hz0 hz1 _ _ _ _ n rfl rfl rfl rfl (by rw [hz2]; omega) (by unfold maxLen; omega) (Nat.le_refl _) ?_; intro w1 hown hgrow))
  have hB : Below w.heap.size w w1 := (Below.refl _ _).grown hgrow (Nat.le_refl _) (by simp)
  have ho : OwnI w1 w.heap.size (.slice (some ⟨w.heap.size, 0, none⟩) n n) (List.replicate n 0) := made_row hown
  clear hown hgrow
  go_loopw [13] (fun i wr => ∃ (k : Nat) (S : List Int), k ≤ n ∧ i = .int .i64 k ∧ Hid (OwnI wr w.heap.size (.slice (some ⟨w.heap.size, 0, none⟩) n n) S) ∧ Hid (S.length = n ∧ ∀ j, (hj : j < n) → j < k → fn S j = fn list (r[j]'(by rw [HR.out]; exact hj))) ∧ Hid (Below w.heap.size w wr)) (fun i _ => n - (intOf i).toNat)
  case atStart => exact ⟨0, _, Nat.zero_le _, rfl, ho, ⟨by simp, fun j _ hj => by omega⟩, hB⟩
  case round =>
    obtain ⟨k, S, hk, rfl, hS, hC, hbel⟩ := hrel
    by_cases hlt : k < n
    · have hki : (k : Int) < (n : Int) := by omega
      obtain ⟨c1, c2, c3⟩ := HC.out wr hbel.out k hlt
      obtain ⟨x, hx⟩ : ∃ x, r[k]'(by rw [HR.out]; exact hlt) = x := ⟨_, rfl⟩
      obtain ⟨y, hy⟩ : ∃ y, fn list x = y := ⟨_, rfl⟩
      rw [hx] at c1 c2 c3
      rw [hy] at c2
      have hxi : (x : Int) < (m : Int) := by omega
      have cs := hS.out.cellN k hlt
      have fs : wr.frozen? ⟨w.heap.size, k, none⟩ = false := hS.out.frozenN k
      have hst : Hid (OwnI (wr.setCell ⟨w.heap.size, k, none⟩ (.int .i64 y)) w.heap.size (.slice (some ⟨w.heap.size, 0, none⟩) n n) (S.set k y)) := hS.out.storedN k y
      have hC2 : Hid ((S.set k y).length = n ∧ ∀ j, (hj : j < n) → j < k + 1 → fn (S.set k y) j = fn list (r[j]'(by rw [HR.out]; exact hj))) := ⟨by rw [List.length_set]; exact hC.out.1, fun j hj hjk => by
        by_cases e : j = k
        · subst e; rw [fn_set_same (by rw [hC.out.1]; exact hj), hx, hy]
        · rw [fn_set_other (by omega)]; exact hC.out.2 j hj (by omega)⟩
      have hb2 : Hid (Below w.heap.size w (wr.setCell ⟨w.heap.size, k, none⟩ (.int .i64 y))) := hbel.out.setCell (p := ⟨w.heap.size, k, none⟩) (Nat.le_refl _) _
      clear hx hy
      go_wp2_with fail
      go_roundw
      case rel => exact ⟨k + 1, _, by omega, by go_num, hst, hC2, hb2⟩
      case measure => simp only [intOf]; omega
    · have e : k = n := by omega
      subst e
      have hSe : S = pickL r list := ext_fn (by rw [hC.out.1, pickL_len, HR.out]) (fun j hj => by
        rw [hC.out.1] at hj
        rw [hC.out.2 j hj hj, fn_pickL (by rw [HR.out]; exact hj)])
      have HSE : Hid (S = pickL r list) := hSe
      clear hSe
      go_wp2_with fail
      go_ret
      exact ⟨⟨_, rfl, by rw [← HSE.out]; exact hS.out⟩, hbel.out⟩

theorem implBesideB (at_ : Nat) {B T gm gq gl gc n : Nat} {base : Int} {cs M L cls : List Int} (w : World) (h : TT w B T gm gq gl gc n base cs M L cls) (hn80 : n ≤ 1000) (ha : at_ ≤ n) :
    Calls Tryz.prog 97 #[.pointer (some ⟨T, 0, none⟩), .int .i64 (at_ : Int), .int .i64 (-1)] w fun e w' => e = .returned (.int .i64 (befL (fn L) base at_)) ∧ w' = w := by
  have c0 := h.c0
  have c3 := h.c3
  have HL : Hid (∀ x, x < n → w.cell? ⟨gl, x, none⟩ = some (.int .i64 (fn L x))) := fun x hx => h.ol.cellN x hx
  clear h
  go_enter Tryz.func97, Tryz.ntmps97
  go_wp2_with fail
  go_loop [1] (fun z => ∃ k : Nat, z = .int .i64 ((k : Int) - 1) ∧ k ≤ at_ ∧ Hid (befL (fn L) base at_ = befL (fn L) base k)) (fun z => (intOf z + 1).toNat)
  case atStart => exact ⟨at_, by first | rfl | (congr 1), Nat.le_refl _, rfl⟩
  case round =>
    obtain ⟨k, rfl, hk, he⟩ := hrel
    cases k with
    | zero =>
      go_wp2_with fail
      go_ret
      exact ⟨retInt he.out.symm, rfl⟩
    | succ k =>
      rw [show ((k + 1 : Nat) : Int) - 1 = (k : Int) by omega]
      have hkn : (k : Int) < (n : Int) := by omega
      have cx := HL.out k (by omega)
      obtain ⟨y, hy⟩ : ∃ y, fn L k = y := ⟨_, rfl⟩
      rw [hy] at cx
      have he2 : Hid (befL (fn L) base at_ = if 0 ≤ y then y else befL (fn L) base k) := by unfold Hid; rw [he.out]; simp only [befL, hy]
      clear he hy
      by_cases h0 : 0 ≤ y
      · go_wp2_with fail
        go_ret
        exact ⟨retInt (by rw [he2.out, if_pos h0]), rfl⟩
      · go_wp2_with fail
        go_round
        case rel => exact ⟨k, by first | rfl | (congr 1), by omega, by unfold Hid; rw [he2.out, if_neg h0]⟩
        case measure => simp only [intOf]; omega
theorem implBesideF (at_ : Nat) {B T gm gq gl gc n : Nat} {base : Int} {cs M L cls : List Int} (w : World) (h : TT w B T gm gq gl gc n base cs M L cls) (hn80 : n ≤ 1000) (ha : at_ < n) :
    Calls Tryz.prog 97 #[.pointer (some ⟨T, 0, none⟩), .int .i64 (at_ : Int), .int .i64 1] w fun e w' => e = .returned (.int .i64 (aftL (fn L) n base (n - (at_ + 1)))) ∧ w' = w := by
  have c0 := h.c0
  have c3 := h.c3
  have HL : Hid (∀ x, x < n → w.cell? ⟨gl, x, none⟩ = some (.int .i64 (fn L x))) := fun x hx => h.ol.cellN x hx
  clear h
  go_enter Tryz.func97, Tryz.ntmps97
  go_wp2_with fail
  go_loop [1] (fun z => ∃ k : Nat, z = .int .i64 (k : Int) ∧ k ≤ n ∧ Hid (aftL (fn L) n base (n - (at_ + 1)) = aftL (fn L) n base (n - k))) (fun z => n - (intOf z).toNat)
  case atStart => exact ⟨at_ + 1, by go_num, by omega, rfl⟩
  case round =>
    obtain ⟨k, rfl, hk, he⟩ := hrel
    by_cases hlt : k < n
    · have hkn : (k : Int) < (n : Int) := by omega
      have cx := HL.out k hlt
      by_cases h0 : 0 ≤ fn L k
      · have he2 : Hid (aftL (fn L) n base (n - (at_ + 1)) = fn L k) := by unfold Hid; rw [he.out, aftL_hit hlt h0]
        clear he
        go_wp2_with fail
        go_ret
        exact ⟨retInt he2.out.symm, rfl⟩
      · have he2 : Hid (aftL (fn L) n base (n - (at_ + 1)) = aftL (fn L) n base (n - (k + 1))) := by unfold Hid; rw [he.out, aftL_step hlt (by omega)]
        clear he
        go_wp2_with fail
        go_round
        case rel => exact ⟨k + 1, by go_num, by omega, he2⟩
        case measure => simp only [intOf]; omega
    · have e : k = n := by omega
      subst e
      have he2 : Hid (aftL (fn L) k base (k - (at_ + 1)) = base) := by unfold Hid; rw [he.out]; simp [aftL]
      clear he
      go_wp2_with fail
      go_ret
      exact ⟨retInt he2.out.symm, rfl⟩
theorem implMore (lvl c : Int) (w : World) (h0 : 0 ≤ lvl) (r : Int) (hr : Hid (moreF lvl c = r)) : Calls Tryz.prog 35 #[.int .i64 lvl, .int .i64 c] w fun e w' => e = .returned (.int .i64 r) ∧ w' = w := by
  have HO : Hid (∀ W, Calls Tryz.prog 66 #[.int .i64 lvl] W fun e w' => e = .returned (.int .i64 (ownOf lvl)) ∧ w' = W) := fun W => implOwn lvl W h0
  have hr2 := hr.out
  unfold moreF at hr2
  obtain ⟨o, ho⟩ : ∃ o, ownOf lvl = o := ⟨_, rfl⟩
  rw [ho] at hr2 HO
  have htm : lvl.tmod 2 = lvl % 2 := Int.tmod_eq_emod_of_nonneg h0
  by_cases h1 : c = o
  · rw [if_pos h1] at hr2
    have hb : (c == o) = true := by simpa using h1
    subst hr2
    clear h1 ho hr
    go_enter Tryz.func35, Tryz.ntmps35
    go_wp2_with (go_at_call 66; refine (HO.out _).mono ?_; rintro e w1 ⟨rfl, hw1⟩; rw [hw1]; clear hw1 w1)
    go_ret
    exact ⟨rfl, rfl⟩
  · rw [if_neg h1] at hr2
    have hb : (c == o) = false := by simpa using h1
    by_cases h2 : lvl % 2 = 0
    · have hm : (lvl % 2 == 0) = true := by simpa using h2
      have hm2 : (lvl.tmod 2 == 0) = true := by rw [htm]; exact hm
      by_cases h3 : c = 2
      · have hc2 : (c == 2) = true := by simpa using h3
        rw [if_neg (by simp [h3])] at hr2
        subst hr2
        clear h1 h3 ho hr htm
        go_enter Tryz.func35, Tryz.ntmps35
        go_wp2_with (go_at_call 66; refine (HO.out _).mono ?_; rintro e w1 ⟨rfl, hw1⟩; rw [hw1]; clear hw1 w1)
        go_ret
        exact ⟨rfl, rfl⟩
      · have hc2 : (c == 2) = false := by simpa using h3
        rw [if_pos ⟨h2, h3⟩] at hr2
        subst hr2
        clear h1 h3 ho hr htm
        go_enter Tryz.func35, Tryz.ntmps35
        go_wp2_with (go_at_call 66; refine (HO.out _).mono ?_; rintro e w1 ⟨rfl, hw1⟩; rw [hw1]; clear hw1 w1)
        go_ret
        exact ⟨rfl, rfl⟩
    · have hm : (lvl % 2 == 0) = false := by simpa using h2
      have hm2 : (lvl.tmod 2 == 0) = false := by rw [htm]; exact hm
      rw [if_neg (by simp [h2])] at hr2
      subst hr2
      clear h1 ho hr htm
      go_enter Tryz.func35, Tryz.ntmps35
      go_wp2_with (go_at_call 66; refine (HO.out _).mono ?_; rintro e w1 ⟨rfl, hw1⟩; rw [hw1]; clear hw1 w1)
      go_ret
      exact ⟨rfl, rfl⟩
end Go.Proofs.YtgojdlbidjnmmaaGreat
