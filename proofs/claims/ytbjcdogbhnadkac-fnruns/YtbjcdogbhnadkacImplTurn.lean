import Derived.Test.YtbjcdogbhnadkacSpecOrder
import Derived.Test.YtbjcdogbhnadkacReverse
namespace Go.Proofs.Ytbjcdogbhnadkac
open Go.ChangeShapes Go.WideShapes Go.ChangeAt Go.RowKit
set_option linter.unusedSimpArgs false

theorem grown_cell {w w' : World} {g : Nat} (h : w.grownBy w' (some g)) {a : Addr} {v : Value} (hc : w.cell? a = some v) (hne : a.block ≠ g) : w'.cell? a = some v :=
  h.cell hc (by simpa using hne)
theorem At.grown {w w' : World} {g b off : Nat} {l : List Int} (h : At w b off l) (hg : w.grownBy w' (some g)) (hne : b ≠ g) : At w' b off l :=
  fun j hj => grown_cell hg (h j hj) hne
theorem grown_both {a b c : World} {row : Option Nat} (h : a.grownBy b row) (k : b.grownBy c row) : a.grownBy c row :=
  ⟨k.os.trans h.os, k.tape.trans h.tape, k.output.trans h.output, Nat.le_trans h.size k.size, fun i hi hne => (k.block i (Nat.lt_of_lt_of_le hi h.size) hne).trans (h.block i hi hne)⟩

set_option maxHeartbeats 1000000 in
theorem closure_any (X Y b off cap nl y : Nat) (x m : Int) (w : World) (hX : w.cell? ⟨X, 0, none⟩ = some (.slice (some ⟨b, off, none⟩) nl cap)) (hY : w.cell? ⟨Y, 0, none⟩ = some (.int .i64 m)) (hc : w.cell? ⟨b, off + y, none⟩ = some (.int .i64 x)) (hy : (y : Int) < (nl : Int)) :
    Calls Try.prog 51 #[.int .i64 (y : Int), .pointer (some ⟨X, 0, none⟩), .pointer (some ⟨Y, 0, none⟩)] w fun e w' => e = .returned (.bool (decide (m ≤ x))) ∧ ∃ n, w' = w.drewN n := by
  go_enter Try.func51, Try.ntmps51
  go_wp2
  go_quiet (fail)
  go_wp2
  go_ret
  exact ⟨rfl, _, rfl⟩

set_option maxHeartbeats 3000000 in
theorem implTurn_row (g n cp B X Y b off cap nl : Nat) (o lv : List Int) (m : Int) (w : World) (ho : OwnI w B (.slice (some ⟨g, 0, none⟩) n cp) o) (hX : w.cell? ⟨X, 0, none⟩ = some (.slice (some ⟨b, off, none⟩) nl cap)) (hY : w.cell? ⟨Y, 0, none⟩ = some (.int .i64 m)) (hXg : X ≠ g) (hYg : Y ≠ g) (hbg : b ≠ g) (hat : At w b off lv) (hnl : lv.length = nl) (hn : n ≤ 1048576) (hin : Hid (Inn nl o)) :
    Calls Try.prog 50 #[.slice (some ⟨g, 0, none⟩) n cp, .func (Fn.func 51) #[] #[.pointer (some ⟨X, 0, none⟩), .pointer (some ⟨Y, 0, none⟩)]] w fun e w' => e = .returned (.tuple #[]) ∧ OwnI w' B (.slice (some ⟨g, 0, none⟩) n cp) (turned (atLeast lv o m) o) ∧ w.grownBy w' (some g) ∧ w'.heap.size = w.heap.size := by
  obtain ⟨q, hq⟩ : ∃ q, atLeast lv o m = q := ⟨_, rfl⟩
  have HQ : Hid _ := hq
  clear hq
  have hol := ho.len
  have hncp : n ≤ cp := by
    rcases ho.forms with ⟨h, _⟩ | ⟨g', c', h, _, _, h2, _⟩
    · cases h
    · simp only [Value.slice.injEq] at h; omega
  have HOL : Hid _ := hol
  clear hol
  go_enter Try.func50, Try.ntmps50
  go_wp2_with fail
  go_loopw [4, 9] (fun fr i wr => ∃ (f k : Nat) (M : List Int), f ≤ k ∧ k ≤ n ∧ fr = .int .i64 f ∧ i = .int .i64 k ∧ OwnI wr B (.slice (some ⟨g, 0, none⟩) n cp) M ∧ Hid ((∀ x, x < f → fn M x = turnAt q o x) ∧ (∀ x, f ≤ x → x < n → fn M x = fn o x) ∧ (∀ y, f ≤ y → y < k → q y = true) ∧ (f = 0 ∨ q (f - 1) = false)) ∧ w.grownBy wr (some g) ∧ Hid (wr.heap.size = w.heap.size)) (fun _ i _ => n - (intOf i).toNat)
  case atStart => exact ⟨0, 0, o, Nat.le_refl _, Nat.zero_le _, rfl, rfl, ho, ⟨fun x hx => by omega, fun x _ _ => rfl, fun y _ _ => by omega, .inl rfl⟩, ⟨rfl, rfl, rfl, Nat.le_refl _, fun _ _ _ => rfl⟩, rfl⟩
  case round =>
    obtain ⟨f, k, M, hfk, hkn, rfl, rfl, hown, hinv, hgr, hsz⟩ := hrel
    by_cases hlt : k < n
    · have hko := hinv.out.2.1 k hfk hlt
      obtain ⟨y, hy⟩ : ∃ y : Nat, fn o k = (y : Int) := ⟨(fn o k).toNat, by have := (hin.out k (by rw [HOL.out]; exact hlt)).1; omega⟩
      have hyn : y < nl := by have := (hin.out k (by rw [HOL.out]; exact hlt)).2; omega
      have hc1 : wr.cell? ⟨g, k, none⟩ = some (.int .i64 (y : Int)) := by rw [hown.cellN k hlt, hko, hy]
      have hX2 := grown_cell hgr hX hXg
      have hY2 := grown_cell hgr hY hYg
      have hc2 : wr.cell? ⟨b, off + y, none⟩ = some (.int .i64 (fn lv y)) := (hat.grown hgr hbg) y (by omega)
      have hyi : (y : Int) < (nl : Int) := by omega
      have HL : Hid (q k = decide (m ≤ fn lv y)) := by
        show q k = decide (m ≤ fn lv y)
        rw [← HQ.out]; unfold atLeast; rw [hy]; simp
      clear hy hko
      by_cases hle : m ≤ fn lv y
      · have HK : Hid (q k = true) := by show q k = true; rw [HL.out]; simpa using hle
        have hdec : decide (m ≤ fn lv y) = true := by simpa using hle
        go_wp2_with (go_at_call 51; refine (closure_any X Y b off cap nl y _ m _ hX2 hY2 hc2 hyi).mono ?_; rintro e w5 ⟨rfl, nd, rfl⟩)
        go_roundw
        case rel =>
          refine ⟨f, k + 1, M, by omega, by omega, rfl, by go_num, hown.drewN _, ⟨hinv.out.1, hinv.out.2.1, fun z a c => ?_, hinv.out.2.2.2⟩, ⟨hgr.os, hgr.tape, hgr.output, hgr.size, hgr.block⟩, hsz⟩
          by_cases e : z = k
          · subst e; exact HK.out
          · exact hinv.out.2.2.1 z a (by omega)
        case measure => simp only [intOf]; omega
      · have HK : Hid (q k = false) := by show q k = false; rw [HL.out]; simpa using hle
        have hdec : decide (m ≤ fn lv y) = false := by simpa using hle
        have hfcp : (f : Int) < (cp : Int) := by omega
        have hfc : (f : Int) ≤ (k : Int) := by omega
        have hkc : (k : Int) ≤ (cp : Int) := by omega
        go_wp2_with (go_at_call 51; refine (closure_any X Y b off cap nl y _ m _ hX2 hY2 hc2 hyi).mono ?_; rintro e w5 ⟨rfl, nd, rfl⟩)
        refine (reverse_any g f (k - f) n cp _ B M _ (hown.drewN _) (by omega) hn).mono ?_
        rintro e w6 ⟨rfl, ⟨M2, hown2, hM2⟩, hgr2, hsz2⟩
        have hgr0 : w.grownBy (wr.drewN nd) (some g) := ⟨hgr.os, hgr.tape, hgr.output, hgr.size, hgr.block⟩
        have hgr3 : w.grownBy w6 (some g) := grown_both hgr0 hgr2
        have HS2 : Hid (w6.heap.size = w.heap.size) := by show w6.heap.size = w.heap.size; rw [hsz2]; exact hsz.out
        clear hsz2 hgr2
        go_wp2_with fail
        go_roundw
        case rel =>
          refine ⟨k + 1, k + 1, M2, Nat.le_refl _, by omega, by go_num, by go_num, hown2, ⟨fun x hx => ?_, fun x a c => ?_, fun z a c => by omega, .inr (by rw [Nat.add_sub_cancel]; exact HK.out)⟩, hgr3, HS2⟩
          · rw [hM2.out x (by omega)]
            by_cases e : x = k
            · subst e
              rw [if_neg (by omega), hinv.out.2.1 x hfk hlt, turn_out HK.out]
            · by_cases e2 : f ≤ x
              · rw [if_pos (by omega), hinv.out.2.1 _ (by omega) (by omega), turn_in (s := f) (e := k) e2 (by omega) (by rw [HOL.out]; omega) hinv.out.2.2.1 hinv.out.2.2.2 (.inr HK.out)]
                congr 1; omega
              · rw [if_neg (by omega)]; exact hinv.out.1 x (by omega)
          · rw [hM2.out x c, if_neg (by omega)]; exact hinv.out.2.1 x (by omega) c
        case measure => simp only [intOf]; omega
    · have e : k = n := by omega
      subst e
      have hfc : (f : Int) ≤ (k : Int) := by omega
      have hend : ∀ (M2 : List Int) (i0 m0 : Nat), M2.length = k → (∀ x, x < k → fn M2 x = if f ≤ x ∧ x < k then fn M (f + k - 1 - x) else fn M x) → M2 = turned q o := by
        intro M2 i0 m0 hl2 hM2
        refine ext_fn (by rw [turned_len, HOL.out]; exact hl2) (fun x hx => ?_)
        rw [hl2] at hx
        rw [fn_turned (by rw [HOL.out]; exact hx), hM2 x hx]
        by_cases e2 : f ≤ x
        · rw [if_pos (by omega), hinv.out.2.1 _ (by omega) (by omega), turn_in (s := f) (e := k) e2 hx (by rw [HOL.out]; omega) hinv.out.2.2.1 hinv.out.2.2.2 (.inl HOL.out.symm)]
        · rw [if_neg (by omega)]; exact hinv.out.1 x (by omega)
      have HE : Hid _ := hend
      clear hend
      by_cases hfe : f < cp
      · have hfcp : (f : Int) < (cp : Int) := by omega
        go_wp2_with fail
        refine (reverse_any g f (k - f) k cp _ B M _ hown (by omega) hn).mono ?_
        rintro e w6 ⟨rfl, ⟨M2, hown2, hM2⟩, hgr2, hsz2⟩
        have hgr3 : w.grownBy w6 (some g) := grown_both hgr hgr2
        have HS2 : Hid (w6.heap.size = w.heap.size) := by show w6.heap.size = w.heap.size; rw [hsz2]; exact hsz.out
        clear hsz2 hgr2
        go_wp2_with fail
        go_end0
        have el : M2 = turned q o := HE.out M2 0 0 hown2.len (fun x hx => by
          rw [hM2.out x hx, show f + (k - f) = k by omega, show 2 * f + (k - f) - 1 - x = f + k - 1 - x by omega])
        rw [el, ← HQ.out] at hown2
        exact ⟨rfl, hown2, hgr3, HS2.out⟩
      · have ef : f = cp := by omega
        subst ef
        have ek : k = f := by omega
        subst ek
        go_wp2_with fail
        refine (reverse_any g 0 0 k k _ B M _ hown (by omega) hn).mono ?_
        rintro e w6 ⟨rfl, ⟨M2, hown2, hM2⟩, hgr2, hsz2⟩
        have hgr3 : w.grownBy w6 (some g) := grown_both hgr hgr2
        have HS2 : Hid (w6.heap.size = w.heap.size) := by show w6.heap.size = w.heap.size; rw [hsz2]; exact hsz.out
        clear hsz2 hgr2
        go_wp2_with fail
        go_end0
        have el : M2 = turned q o := HE.out M2 0 0 hown2.len (fun x hx => by
          rw [hM2.out x hx, if_neg (by omega), if_neg (by omega)])
        rw [el, ← HQ.out] at hown2
        exact ⟨rfl, hown2, hgr3, HS2.out⟩
end Go.Proofs.Ytbjcdogbhnadkac
