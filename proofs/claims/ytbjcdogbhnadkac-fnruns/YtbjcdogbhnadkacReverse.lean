import Derived.Test.YtbjcdogbhnadkacTurnMath
namespace Go.Proofs.Ytbjcdogbhnadkac
open Go.ChangeShapes Go.WideShapes Go.ChangeAt Go.RowKit
set_option linter.unusedSimpArgs false

theorem OwnI.drew {w : World} {v : Value} {l : List Int} {B : Nat} (h : OwnI w B v l) : OwnI w.drew B v l := h
theorem grown_set {a w : World} {g : Nat} (h : a.grownBy w (some g)) (j : Nat) (x : Value) : a.grownBy (w.setCell ⟨g, j, none⟩ x) (some g) :=
  ⟨h.os, h.tape, h.output, by simpa using h.size, fun i hi hne => (heap_setCell_other w ⟨g, j, none⟩ i x (fun e => hne (by rw [e]))).trans (h.block i hi hne)⟩
theorem grown_drew {a w : World} {row : Option Nat} (h : a.grownBy w row) : a.grownBy w.drew row := ⟨h.os, h.tape, h.output, h.size, h.block⟩
theorem rev_step {L M : List Int} {i m k n x : Nat} (hM : ∀ x, x < n → fn M x = revAt L i m k x) (hn : M.length = n) (him : i + m ≤ n) (hk : k < m - 1 - k) (hm : 1 ≤ m) (hx : x < n) :
    fn ((M.set (i + k) (fn M (i + (m - 1 - k)))).set (i + (m - 1 - k)) (fn M (i + k))) x = revAt L i m (k + 1) x := by
  have e1 := hM (i + k) (by omega)
  have e2 := hM (i + (m - 1 - k)) (by omega)
  have r1 : revAt L i m k (i + k) = fn L (i + k) := by unfold revAt; rw [if_neg (by omega)]
  have r2 : revAt L i m k (i + (m - 1 - k)) = fn L (i + (m - 1 - k)) := by unfold revAt; rw [if_neg (by omega)]
  by_cases a : x = i + (m - 1 - k)
  · subst a
    rw [fn_set_same (by simp; omega), e1, r1]
    unfold revAt; rw [if_pos (by omega)]; congr 1; omega
  · rw [fn_set_other (by omega)]
    by_cases b : x = i + k
    · subst b
      rw [fn_set_same (by omega), e2, r2]
      unfold revAt; rw [if_pos (by omega)]; congr 1; omega
    · rw [fn_set_other (by omega), hM x hx]
      unfold revAt
      by_cases c : (i ≤ x ∧ x < i + k) ∨ (i + m - k ≤ x ∧ x < i + m)
      · rw [if_pos c, if_pos (by omega)]
      · rw [if_neg c, if_neg (by omega)]
theorem rev_end {L : List Int} {i m k x : Nat} (hk : ¬ (k : Int) < (m : Int) - 1 - k) (hk2 : 2 * k ≤ m) : revAt L i m k x = if i ≤ x ∧ x < i + m then fn L (2 * i + m - 1 - x) else fn L x := by
  unfold revAt
  by_cases c : i ≤ x ∧ x < i + m
  · rw [if_pos c]
    by_cases d : (i ≤ x ∧ x < i + k) ∨ (i + m - k ≤ x ∧ x < i + m)
    · rw [if_pos d]
    · rw [if_neg d]; congr 1; omega
  · rw [if_neg c, if_neg (by omega)]

set_option maxHeartbeats 4000000 in
theorem reverse_any (g i m n cp cq B : Nat) (L : List Int) (w : World) (h : OwnI w B (.slice (some ⟨g, 0, none⟩) n cp) L) (him : i + m ≤ n) (hn : n ≤ 1048576) :
    Calls Try.prog 65 #[.slice (some ⟨g, i, none⟩) m cq] w fun e w' => e = .returned (.tuple #[]) ∧ (∃ M, OwnI w' B (.slice (some ⟨g, 0, none⟩) n cp) M ∧ Hid (∀ x, x < n → fn M x = if i ≤ x ∧ x < i + m then fn L (2 * i + m - 1 - x) else fn L x)) ∧ w.grownBy w' (some g) ∧ w'.heap.size = w.heap.size := by
  go_enter Try.func65, Try.ntmps65
  go_wp2
  go_loopw [2, 3] (fun a b wr => ∃ (k : Nat) (M : List Int), 2 * k ≤ m ∧ a = .int .i64 k ∧ b = .int .i64 ((m : Int) - 1 - k) ∧ OwnI wr B (.slice (some ⟨g, 0, none⟩) n cp) M ∧ Hid (∀ x, x < n → fn M x = revAt L i m k x) ∧ w.grownBy wr (some g) ∧ Hid (wr.heap.size = w.heap.size)) (fun a _ _ => m - (intOf a).toNat)
  case atStart => exact ⟨0, L, by omega, rfl, by go_num, h, fun x _ => by unfold revAt; rw [if_neg (by omega)], ⟨rfl, rfl, rfl, Nat.le_refl _, fun _ _ _ => rfl⟩, rfl⟩
  case round =>
    obtain ⟨k, M, hk, rfl, rfl, hown, hM, hgr, hsz⟩ := hrel
    by_cases hlt : (k : Int) < (m : Int) - 1 - k
    · obtain ⟨j, hj⟩ : ∃ j, j = m - 1 - k := ⟨_, rfl⟩
      have hji : (m : Int) - 1 - k = (j : Int) := by omega
      rw [hji]
      rw [hji] at hlt
      have f1 : wr.frozen? ⟨g, i + k, none⟩ = false := hown.frozenN _
      have f2 : wr.frozen? ⟨g, i + j, none⟩ = false := hown.frozenN _
      have c1 : wr.cell? ⟨g, i + k, none⟩ = some (.int .i64 (fn M (i + k))) := hown.cellN _ (by omega)
      have c2 : wr.cell? ⟨g, i + j, none⟩ = some (.int .i64 (fn M (i + j))) := hown.cellN _ (by omega)
      have hkm : (k : Int) < (m : Int) := by omega
      have hjm : (j : Int) < (m : Int) := by omega
      have HJ : Hid _ := hj
      clear hj hji
      go_wp2
      go_region
      go_wp2
      go_roundw
      case rel =>
        have hl := hown.len
        refine ⟨k + 1, (M.set (i + k) (fn M (i + j))).set (i + j) (fn M (i + k)), by have := HJ.out; omega, by go_num, by have := HJ.out; go_num, ((hown.storedN (i + k) (fn M (i + j))).storedN (i + j) (fn M (i + k))).drew, fun x hx => ?_, grown_drew (grown_set (grown_set hgr _ _) _ _), ?_⟩
        · have e := HJ.out
          subst e
          exact rev_step hM.out hl him (by omega) (by omega) hx
        · show (World.drew _).heap.size = w.heap.size
          simp
          exact hsz.out
      case measure => simp only [intOf]; omega
    · go_wp2
      go_end0
      refine ⟨rfl, ⟨M, hown, fun x hx => ?_⟩, hgr, hsz.out⟩
      rw [hM.out x hx]; exact rev_end (by omega) hk
end Go.Proofs.Ytbjcdogbhnadkac
