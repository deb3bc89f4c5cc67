import Derived.Test.YtkdmfjnaajedhaaMg2
import Derived.Test.YtkdmfjnaajedhaaMg1
import Derived.Laws.Tables
namespace Go.Proofs.Ytkdmfjnaajedhaa
open Go.ChangeShapes Go.WideShapes Go.ChangeAt Go.RowKit
set_option linter.unusedSimpArgs false

theorem infoI : (Try.prog.info? 3).map (fun i => (i.zero, i.size, i.bytes)) = some (some (.int .i64 0), 1, 8) := by kernel_rfl

/-- 'out = append(out, x)': the number has been laid in a block of its own first. -/
theorem own_append {ops : Array Oper} {rest : List Oper} {o : Oper} {a : Act} {Q : Exit → Act → World → Prop} {wr : World} {T : TypeId} {v : Value} {l : List Int} {B : Nat} {xv : Int} (s x : Operand) (hown : OwnI wr B v l) (hl : l.length ≤ 1073741824) (hB : B ≤ wr.heap.size)
    (hgd : o.guard = none) (ho : o.op = .call { callee := .builtin .append, args := #[s, x], argTypes := #[22, 22] }) (hs : a.eval s = v) 
    (hx : a.eval x = .slice (some ⟨wr.heap.size, 0, none⟩) 1 1)
    (h : ∀ v' w', OwnI w' B v' (l ++ [xv]) → wr.grownBy w' v.ownBlock → wpList Try.prog ops Q rest (a.put o.dst v') w') :
    wpList Try.prog ops Q (o :: rest) a (wr.alloc (.cells #[.int .i64 xv] T)) := by
  obtain ⟨i0, hi, hz0, hz1, hz2⟩ := info_parts infoI
  refine wpList_append_own _ hgd s x 22 ho B 3 i0 (.int .i64 0) 1 8 Try.underlying22 hi hz0 hz1 hz2 rfl (by decide) v l.length (l.map (Value.int .i64)) hs (World.ownsRow.alloc hown _) ⟨wr.heap.size, 0, none⟩ 1 1 [.int .i64 xv] hx rfl ?_ ?_ ?_ ?_ ?_ ?_
  · intro j u hj
    match j, hj with
    | 0, hj => simp at hj; subst hj; simp [Addr.add]
  · intro u hu; simp at hu; subst hu; rfl
  · unfold maxLen; omega
  · omega
  · simp; omega
  · intro v' w' h1 h2 _
    refine h v' w' ?_ ?_
    · unfold OwnI; rw [List.length_append, List.map_append]; exact h1
    · refine ⟨h2.os, h2.tape, h2.output, ?_, fun k hk hne => ?_⟩
      · have := h2.size; simp at this; omega
      · rw [h2.block k (by simp; omega) hne]; exact Below.heap_alloc wr _ k hk

theorem grown_below {W w w' : World} {B0 B : Nat} {v : Value} {l : List Int} (hb : Below B0 W w) (hg : w.grownBy w' v.ownBlock) (ho : OwnI w B v l) (h0 : B0 ≤ B) (h1 : B0 ≤ w.heap.size) : Below B0 W w' :=
  hb.grown hg h1 (fun k hk => Nat.le_trans h0 (ho.lt k hk).1)

/-- '[]int{}': a row without numbers. -/
theorem own_empty (w : World) (B : Nat) (T : TypeId) (h : B ≤ w.heap.size) (hT : T = 3) : OwnI (w.alloc (.cells #[] T)) B (.slice (some ⟨w.heap.size, 0, none⟩) 0 0) [] := by
  subst hT
  exact World.ownsRow_made w #[] 0 h (by unfold maxLen; omega) (by simp)
end Go.Proofs.Ytkdmfjnaajedhaa
namespace Go.Proofs.Ytkdmfjnaajedhaa
open Go.ChangeShapes Go.WideShapes Go.ChangeAt Go.RowKit
set_option linter.unusedSimpArgs false

set_option maxHeartbeats 1000000 in
theorem first_any (b : Nat) (L : Nat → Int) (n : Nat) (hn : n ≤ 100) (r : Int) (w : World) (hs : Hid (∀ i j, i ≤ j → j < n → L i ≤ L j)) (hc : Hid (∀ m, m < n → w.cell? ⟨b, m * 3 + 1, none⟩ = some (.int .i64 (L m)))) :
    Calls Try.prog 77 #[.slice (some ⟨b, 0, none⟩) n n, .int .i64 r] w fun e w' => (∃ k : Nat, e = .returned (.int .i64 k) ∧ k ≤ n ∧ Hid ((∀ j, j < k → L j < r) ∧ (k < n → r ≤ L k))) ∧ w' = w := by
  go_enter Try.func77, Try.ntmps77
  go_wp2
  go_loop [5, 6] (fun lo hi => ∃ l h : Nat, l ≤ h ∧ h ≤ n ∧ lo = .int .i64 l ∧ hi = .int .i64 h ∧ Hid ((∀ j, j < l → L j < r) ∧ (h < n → r ≤ L h))) (fun lo hi => (intOf hi).toNat - (intOf lo).toNat)
  case atStart => exact ⟨0, n, Nat.zero_le _, Nat.le_refl _, rfl, rfl, ⟨by omega, by omega⟩⟩
  case round =>
    obtain ⟨l, h, hlh, hh, rfl, rfl, hb⟩ := hrel
    by_cases hlt : l < h
    · have hcell : w.cell? ⟨b, (l + h) / 2 * 3 + 1, none⟩ = some (.int .i64 (L ((l + h) / 2))) := hc.out _ (by omega)
      by_cases hq : L ((l + h) / 2) < r
      · go_wp2
        go_round
        case rel =>
          refine ⟨(l + h) / 2 + 1, h, by omega, hh, by go_num, rfl, ?_⟩
          refine ⟨fun j hj => ?_, hb.out.2⟩
          have := hs.out j ((l + h) / 2) (by omega) (by omega)
          omega
        case measure => simp only [intOf]; omega
      · go_wp2
        go_round
        case rel =>
          refine ⟨l, (l + h) / 2, by omega, by omega, rfl, by go_num, ?_⟩
          exact ⟨hb.out.1, fun _ => by omega⟩
        case measure => simp only [intOf]; omega
    · go_wp2
      go_ret
      have e : l = h := by omega
      subst e
      exact ⟨⟨l, rfl, hh, hb⟩, rfl⟩
end Go.Proofs.Ytkdmfjnaajedhaa
namespace Go.Proofs.Ytkdmfjnaajedhaa
open Go.ChangeShapes Go.WideShapes Go.ChangeAt Go.RowKit
set_option linter.unusedSimpArgs false

def tab : Array Value := #[.int .i64 9, .int .i64 9, .int .i64 11, .int .i64 32, .int .i64 32, .int .i64 12, .int .i64 35, .int .i64 37, .int .i64 6, .int .i64 43, .int .i64 43, .int .i64 5, .int .i64 44, .int .i64 44, .int .i64 8, .int .i64 45, .int .i64 45, .int .i64 5, .int .i64 46, .int .i64 47, .int .i64 8, .int .i64 48, .int .i64 57, .int .i64 4, .int .i64 58, .int .i64 58, .int .i64 8, .int .i64 65, .int .i64 90, .int .i64 1, .int .i64 97, .int .i64 122, .int .i64 1, .int .i64 173, .int .i64 173, .int .i64 10, .int .i64 768, .int .i64 879, .int .i64 9, .int .i64 1488, .int .i64 1514, .int .i64 2, .int .i64 1569, .int .i64 1610, .int .i64 3, .int .i64 1632, .int .i64 1641, .int .i64 7, .int .i64 8203, .int .i64 8203, .int .i64 10, .int .i64 8205, .int .i64 8205, .int .i64 10, .int .i64 8234, .int .i64 8234, .int .i64 14, .int .i64 8235, .int .i64 8235, .int .i64 15, .int .i64 8236, .int .i64 8236, .int .i64 16, .int .i64 8237, .int .i64 8237, .int .i64 17, .int .i64 8238, .int .i64 8238, .int .i64 18, .int .i64 8294, .int .i64 8294, .int .i64 19, .int .i64 8295, .int .i64 8295, .int .i64 20, .int .i64 8296, .int .i64 8296, .int .i64 21, .int .i64 8297, .int .i64 8297, .int .i64 22, .int .i64 19968, .int .i64 40959, .int .i64 1]
def zeros : Array Value := Array.replicate 84 (.int .i64 0)
def firsts (m : Nat) : Int := [9, 32, 35, 43, 44, 45, 46, 48, 58, 65, 97, 173, 768, 1488, 1569, 1632, 8203, 8205, 8234, 8235, 8236, 8237, 8238, 8294, 8295, 8296, 8297, 19968].getD m 0
def lasts (m : Nat) : Int := [9, 32, 37, 43, 44, 45, 47, 57, 58, 90, 122, 173, 879, 1514, 1610, 1641, 8203, 8205, 8234, 8235, 8236, 8237, 8238, 8294, 8295, 8296, 8297, 40959].getD m 0
def kinds (m : Nat) : Int := [11, 12, 6, 5, 8, 5, 8, 4, 8, 1, 1, 10, 9, 2, 3, 7, 10, 10, 14, 15, 16, 17, 18, 19, 20, 21, 22, 1].getD m 0

theorem split28 {m : Nat} (h : m < 28) : m = 0 ∨ m = 1 ∨ m = 2 ∨ m = 3 ∨ m = 4 ∨ m = 5 ∨ m = 6 ∨ m = 7 ∨ m = 8 ∨ m = 9 ∨ m = 10 ∨ m = 11 ∨ m = 12 ∨ m = 13 ∨ m = 14 ∨ m = 15 ∨ m = 16 ∨ m = 17 ∨ m = 18 ∨ m = 19 ∨ m = 20 ∨ m = 21 ∨ m = 22 ∨ m = 23 ∨ m = 24 ∨ m = 25 ∨ m = 26 ∨ m = 27 := by omega
theorem tab_last (m : Nat) (h : m < 28) : tab[m * 3 + 1]? = some (.int .i64 (lasts m)) := by
  rcases split28 h with rfl | rfl | rfl | rfl | rfl | rfl | rfl | rfl | rfl | rfl | rfl | rfl | rfl | rfl | rfl | rfl | rfl | rfl | rfl | rfl | rfl | rfl | rfl | rfl | rfl | rfl | rfl | rfl <;> rfl
theorem tab_first (m : Nat) (h : m < 28) : tab[m * 3]? = some (.int .i64 (firsts m)) := by
  rcases split28 h with rfl | rfl | rfl | rfl | rfl | rfl | rfl | rfl | rfl | rfl | rfl | rfl | rfl | rfl | rfl | rfl | rfl | rfl | rfl | rfl | rfl | rfl | rfl | rfl | rfl | rfl | rfl | rfl <;> rfl
theorem tab_kind (m : Nat) (h : m < 28) : tab[m * 3 + 2]? = some (.int .i64 (kinds m)) := by
  rcases split28 h with rfl | rfl | rfl | rfl | rfl | rfl | rfl | rfl | rfl | rfl | rfl | rfl | rfl | rfl | rfl | rfl | rfl | rfl | rfl | rfl | rfl | rfl | rfl | rfl | rfl | rfl | rfl | rfl <;> rfl
theorem lasts_up1 (m : Nat) (h : m < 27) : lasts m ≤ lasts (m + 1) := by
  rcases split28 (show m < 28 by omega) with rfl | rfl | rfl | rfl | rfl | rfl | rfl | rfl | rfl | rfl | rfl | rfl | rfl | rfl | rfl | rfl | rfl | rfl | rfl | rfl | rfl | rfl | rfl | rfl | rfl | rfl | rfl | rfl <;> first | omega | decide
theorem lasts_up (i j : Nat) (h : i ≤ j) (hj : j < 28) : lasts i ≤ lasts j := by
  induction j with
  | zero => have : i = 0 := by omega
            subst this; exact Int.le_refl _
  | succ j ih =>
    by_cases e : i = j + 1
    · subst e; exact Int.le_refl _
    · exact Int.le_trans (ih (by omega) (by omega)) (lasts_up1 j (by omega))

theorem tab_end (r : Int) (h : lasts 27 < r) : bidi r = 13 := by
  simp only [lasts, List.getD_cons_succ, List.getD_cons_zero] at h
  unfold bidi signs moves
  repeat (first | rfl | rw [if_neg (by omega)])
theorem tab_miss (r : Int) (m : Nat) (hm : m < 28) (h1 : 0 < m → lasts (m - 1) < r) (h2 : r < firsts m) : bidi r = 13 := by
  rcases split28 hm with rfl | rfl | rfl | rfl | rfl | rfl | rfl | rfl | rfl | rfl | rfl | rfl | rfl | rfl | rfl | rfl | rfl | rfl | rfl | rfl | rfl | rfl | rfl | rfl | rfl | rfl | rfl | rfl <;> (simp [lasts, firsts] at h1 h2; unfold bidi signs moves; repeat (first | rfl | rw [if_neg (by omega)]))
theorem tab_hit (r : Int) (m : Nat) (hm : m < 28) (h1 : r ≤ lasts m) (h2 : firsts m ≤ r) : bidi r = kinds m := by
  rcases split28 hm with rfl | rfl | rfl | rfl | rfl | rfl | rfl | rfl | rfl | rfl | rfl | rfl | rfl | rfl | rfl | rfl | rfl | rfl | rfl | rfl | rfl | rfl | rfl | rfl | rfl | rfl | rfl | rfl <;> (simp only [lasts, firsts, kinds, List.getD_cons_succ, List.getD_cons_zero] at h1 h2 ⊢; unfold bidi signs moves; repeat (first | rfl | rw [if_pos (by omega)] | rw [if_neg (by omega)]))
end Go.Proofs.Ytkdmfjnaajedhaa
