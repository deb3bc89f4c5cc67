import Derived.Test.YtanhmphmpobceaaWordS
import Derived.Test.YtanhmphmpobceaaWordI
import Derived.Deep.DrawnRows
namespace Go.Proofs.Ytanhmphmpobceaa
open Go.ChangeShapes Go.WideShapes Go.ChangeAt Go.RowKit
set_option linter.unusedSimpArgs false

/-- What WordAt answers. -/
def WAns (l : List Int) (a : Int) (f t : Int) : Prop :=
  if okF (fn l) l.length = true ∧ 0 ≤ a ∧ a < (l.length : Int) then ∃ i j : Nat, f = (i : Int) ∧ t = (j : Int) ∧ WSpan (fn l) l.length a.toNat i j else f = 0 ∧ t = 0
theorem WAns.one {l : List Int} {a f t f' t' : Int} (h : WAns l a f t) (k : WAns l a f' t') : f = f' ∧ t = t' := by
  unfold WAns at h k
  split at h
  · rename_i hc
    rw [if_pos hc] at k
    obtain ⟨i, j, rfl, rfl, h⟩ := h
    obtain ⟨i', j', rfl, rfl, k⟩ := k
    obtain ⟨h1, h2⟩ := h.one k
    exact ⟨by rw [h1], by rw [h2]⟩
  · rename_i hc
    rw [if_neg hc] at k
    exact ⟨by rw [h.1, k.1], by rw [h.2, k.2]⟩
theorem WAns.yes {l : List Int} {p i j : Nat} (hok : okF (fn l) l.length = true) (hp : p < l.length) (h : WSpan (fn l) l.length p i j) : WAns l (p : Int) (i : Int) (j : Int) := by
  unfold WAns
  rw [if_pos ⟨hok, by omega, by omega⟩]
  exact ⟨i, j, rfl, rfl, by simpa using h⟩
theorem WAns.bad {l : List Int} {a : Int} (hok : okF (fn l) l.length = false) : WAns l a 0 0 := by
  unfold WAns
  rw [if_neg (by rw [hok]; simp)]
  exact ⟨rfl, rfl⟩
theorem WAns.out {l : List Int} {a : Int} (h : ¬ (0 ≤ a ∧ a < (l.length : Int))) : WAns l a 0 0 := by
  unfold WAns
  rw [if_neg (fun hc => h hc.2)]
  exact ⟨rfl, rfl⟩

set_option maxHeartbeats 4000000 in
theorem specWordAt (v : Value) (l : List Int) (n : Nat) (a : Int) (a0 : Option Addr) (cap : Nat) (w : World) (hn : Hid (l.length = n)) (hva : v = .slice a0 n cap) (hv : Arg w v l) (hl : n ≤ 4194304) :
    Calls Try.prog 16 #[v, .int .i64 a] w fun e w' => (∃ f t : Int, e = .returned (.tuple #[.int .i64 f, .int .i64 t]) ∧ WAns l a f t) ∧ Below w.heap.size w w' := by
  have HO := specOk v l w hv (by rw [hn.out]; exact hl)
  cases hok : okF (fn l) l.length
  · have HR : Hid (WAns l a 0 0) := WAns.bad (a := a) hok
    rw [hok] at HO
    subst hva
    go_enter Try.func16, Try.ntmps16
    go_wp2_with (go_at_call 32; refine HO.mono ?_; rintro e w' ⟨rfl, rfl⟩)
    go_ret2
    exact ⟨⟨_, _, rfl, HR.out⟩, Below.refl _ _⟩
  · rw [hok] at HO
    have hn0 := okF_len hok
    by_cases hin : 0 ≤ a ∧ a < (n : Int)
    · obtain ⟨p, rfl⟩ : ∃ p : Nat, a = (p : Int) := ⟨a.toNat, by omega⟩
      have hpn : p < n := by omega
      have HR : Hid (∀ i j : Nat, WSpan (fn l) n p i j → WAns l (p : Int) (i : Int) (j : Int)) := fun i j h => WAns.yes hok (by rw [hn.out]; omega) (by rw [hn.out]; exact h)
      have hB : inB (p : Int) 0 ((n : Int) - 1) = true := by simp [inB]; omega
      rcases hv with ⟨a1, c1, h1, h2⟩ | ⟨b, off, cap', hv1, hb, hlc, hcm, hat⟩
      · exfalso; have := hn.out; rw [h2] at this; simp at this; omega
      · rw [hn.out] at hv1
        subst hv1
        clear hva
        rw [hn.out] at hn0
        go_enter Try.func16, Try.ntmps16
        go_wp2_with (first | (go_at_call 32; refine HO.mono ?_; rintro e w' ⟨rfl, rfl⟩) | (go_at_call 35; refine (specIn _ _ _ _).mono ?_; rintro e w' ⟨rfl, rfl⟩))
        go_loopw [6] (fun i wr => ∃ k : Nat, k ≤ p ∧ i = .int .i64 k ∧ Hid (∀ j, k < j → j ≤ p → wbeg (fn l) j = false) ∧ Below w'.heap.size w' wr) (fun i _ => (intOf i).toNat)
        case atStart => exact ⟨p, Nat.le_refl _, rfl, fun j h1 h2 => by omega, Below.refl _ _⟩
        case round =>
          obtain ⟨k, hk, rfl, hno, hbel⟩ := hrel
          have hb' := Nat.lt_of_lt_of_le hb hbel.size
          have hat' := hat.below hbel hb
          cases hbeg : wbeg (fn l) k
          · have hk0 : 0 < k := by
              rcases Nat.eq_zero_or_pos k with rfl | h
              · simp [wbeg] at hbeg
              · exact h
            go_wp2_with (first | (go_at_call 33; refine (specBegins b off cap' n l _ k _ hn.out hb' hat' hl rfl (by omega)).mono ?_; rintro e w2 ⟨rfl, hw2⟩))
            go_roundw
            case rel =>
              refine ⟨k - 1, by omega, by go_num, fun j h1 h2 => ?_, bstep hbel hw2⟩
              by_cases ej : j = k
              · subst ej; exact hbeg
              · exact hno.out j (by omega) h2
            case measure => simp only [intOf]; omega
          · have HB : Hid _ := hbeg
            go_wp2_with (first | (go_at_call 33; refine (specBegins b off cap' n l _ k _ hn.out hb' hat' hl rfl (by omega)).mono ?_; rintro e w2 ⟨rfl, hw2⟩))
            clear hbeg
            go_loopw [7] (fun i wr => ∃ t : Nat, p < t ∧ t ≤ n ∧ i = .int .i64 t ∧ Hid (∀ j, p < j → j < t → wbeg (fn l) j = false) ∧ Below w'.heap.size w' wr) (fun i _ => n - (intOf i).toNat)
            case atStart => exact ⟨p + 1, by omega, by omega, by go_num, fun j h1 h2 => by omega, bstep hbel hw2⟩
            case round =>
              obtain ⟨t, ht, htn, rfl, hno2, hbel2⟩ := hrel
              have hb2 := Nat.lt_of_lt_of_le hb hbel2.size
              have hat2 := hat.below hbel2 hb
              by_cases htl : t < n
              · have hti : (t : Int) < (n : Int) := by omega
                cases hbeg : wbeg (fn l) t
                · go_wp2_with (first | (go_at_call 33; refine (specBegins b off cap' n l _ t _ hn.out hb2 hat2 hl rfl htl).mono ?_; rintro e w3 ⟨rfl, hw3⟩))
                  go_roundw
                  case rel =>
                    refine ⟨t + 1, by omega, by omega, by go_num, fun j h1 h2 => ?_, bstep hbel2 hw3⟩
                    by_cases ej : j = t
                    · subst ej; exact hbeg
                    · exact hno2.out j h1 (by omega)
                  case measure => simp only [intOf]; omega
                · go_wp2_with (first | (go_at_call 33; refine (specBegins b off cap' n l _ t _ hn.out hb2 hat2 hl rfl htl).mono ?_; rintro e w3 ⟨rfl, hw3⟩))
                  go_ret2
                  exact ⟨⟨_, _, rfl, HR.out k t ⟨hk, HB.out, hno.out, ht, htn, hno2.out, fun _ => hbeg⟩⟩, bstep hbel2 hw3⟩
              · have e : t = n := by omega
                subst e
                go_wp2_with fail
                go_ret2
                exact ⟨⟨_, _, rfl, HR.out k t ⟨hk, HB.out, hno.out, ht, htn, hno2.out, fun h => by omega⟩⟩, hbel2⟩
    · have HR : Hid (WAns l a 0 0) := WAns.out (l := l) (a := a) (by rw [hn.out]; exact hin)
      have hB : inB a 0 ((n : Int) - 1) = false := by simp [inB]; omega
      subst hva
      go_enter Try.func16, Try.ntmps16
      go_wp2_with (first | (go_at_call 32; refine HO.mono ?_; rintro e w' ⟨rfl, rfl⟩) | (go_at_call 35; refine (specIn _ _ _ _).mono ?_; rintro e w' ⟨rfl, rfl⟩))
      go_ret2
      exact ⟨⟨_, _, rfl, HR.out⟩, Below.refl _ _⟩
end Go.Proofs.Ytanhmphmpobceaa
