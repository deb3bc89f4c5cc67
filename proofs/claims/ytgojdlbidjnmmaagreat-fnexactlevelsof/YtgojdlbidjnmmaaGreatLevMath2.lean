import Derived.Test.YtgojdlbidjnmmaaGreatLvI5
import Derived.Test.YtgojdlbidjnmmaaGreatPartM
import Derived.Test.YtgojdlbidjnmmaaGreatLineMath
import Derived.Test.YtgojdlbidjnmmaaGreatRunsS3
import Derived.Test.YtgojdlbidjnmmaaGreatRunsS2
namespace Go.Proofs.YtgojdlbidjnmmaaGreat
set_option linter.unusedSimpArgs false
set_option linter.unusedVariables false

def SdOk (s : List Tl) : Prop := ∀ x ∈ s, 0 ≤ x.side ∧ x.side ≤ 2
theorem sd_push {s : TS} (h : SdOk s.st) (right : Bool) (side : Int) (alone : Bool) (hs : 0 ≤ side ∧ side ≤ 2) : SdOk (pushT s right side alone).st := by
  unfold pushT
  split
  · intro x hx
    rcases List.mem_cons.1 hx with e | e
    · subst e; exact hs
    · exact h x e
  · split
    · exact h
    · split <;> exact h
theorem sd_end {s : TS} (h : SdOk s.st) : SdOk (endT s).st := by
  unfold endT
  split
  · exact h
  · split
    · intro x hx
      obtain ⟨p, hp⟩ := cutA_suffix s.st
      exact h x (by rw [hp]; exact List.mem_append_right _ hx)
    · exact h
theorem sd_drop {s : TS} (h : SdOk s.st) : SdOk (dropT s).st := by
  unfold dropT
  split
  · exact h
  · split
    · exact h
    · rcases dropL_cases s.st with e | ⟨x, y, r, e, _, e2⟩
      · intro z hz
        have hz2 : z ∈ dropL s.st := hz
        rw [e] at hz2; exact h z hz2
      · intro z hz
        have hz2 : z ∈ dropL s.st := hz
        rw [e2] at hz2; exact h z (by rw [e]; exact List.mem_cons_of_mem _ hz2)
theorem sd_step {s : TS} (h : SdOk s.st) (c f : Int) : SdOk (stepT c f s).st := by
  unfold stepT
  repeat' split
  all_goals first | exact sd_push h _ _ _ (by omega) | exact sd_end h | exact sd_drop h | exact h
theorem sd_told (c fs : Nat → Int) (base : Int) (k : Nat) : SdOk (told c fs base k).st := by
  induction k with
  | zero => intro x hx; simp only [told, List.mem_singleton] at hx; subst hx; exact ⟨Int.le_refl _, by show (0 : Int) ≤ 2; decide⟩
  | succ k ih => exact sd_step ih _ _
theorem sd_at {s : TS} (h : SdOk s.st) (c : Int) : SdOk (atT c s).st := by
  unfold atT; split
  · exact sd_end h
  · exact h
theorem clAt_bd {c fs : Nat → Int} {base : Int} {k : Nat} (hc : 1 ≤ c k ∧ c k ≤ 22) (ht : tellsB (c k) = false) : 1 ≤ clAt c fs base k ∧ clAt c fs base k ≤ 22 := by
  have hs := sd_at (sd_told c fs base k) (c k)
  unfold clAt clT
  rw [ht, if_neg (by simp)]
  unfold sdT topS
  generalize (atT (c k) (told c fs base k)).st = st at hs ⊢
  match st with
  | [] => simpa using hc
  | x :: r =>
    have := hs x (by simp)
    by_cases e : x.side = 0
    · simpa [e] using hc
    · simp only [e, ne_eq, not_false_eq_true, if_true]; omega
theorem lvAt_told {c fs : Nat → Int} {base : Int} (hb : 0 ≤ base ∧ base ≤ 1) (k : Nat) : lvAt c fs base k ≤ 20 ∧ (0 ≤ lvAt c fs base k → tellsB (c k) = false) := by
  rcases lvAt_bd c fs hb k with ⟨h1, h2⟩ | ⟨h1, h2, h3⟩
  · exact ⟨by omega, fun h => by omega⟩
  · exact ⟨h3, fun _ => h1⟩
theorem lvL_bd {c fs : Nat → Int} {base : Int} (hb : 0 ≤ base ∧ base ≤ 1) (n j : Nat) : fn (lvL c fs base n) j ≤ 22 := by
  by_cases h : j < n
  · rw [fn_lvL h]; have := (lvAt_told (c := c) (fs := fs) hb j).1; omega
  · have : fn (lvL c fs base n) j = 0 := by unfold fn; rw [List.getD_eq_getElem?_getD, List.getElem?_eq_none (by rw [lvL_len]; omega)]; rfl
    omega
/-- Each run is fit to be resolved. -/
theorem run_ok {l : List Int} {mt : Nat → Nat} {base : Int} {n : Nat} (hn : l.length = n) (hb : 0 ≤ base ∧ base ≤ 1) (hok : okF (fn l) n = true) (h80 : n ≤ 80) (ht : Txt (cl l) (fn (lvL (cl l) (fsF (cl l) mt) base n)) n mt) {r : List Nat} (hr : r ∈ runsTo (cl l) (fn (lvL (cl l) (fsF (cl l) mt) base n)) n mt n) {m : Nat} (hm : r.length = m + 1) :
    RunOk l (clL (cl l) (fsF (cl l) mt) base n) n m (fn (lvL (cl l) (fsF (cl l) mt) base n) (r.headD 0)) r := by
  unfold runsTo at hr
  rw [List.mem_map] at hr
  obtain ⟨b, hb1, e⟩ := hr
  rw [List.mem_filter, List.mem_range] at hb1
  have hbb := start_beg hb1.2
  have hlv := chain_lv ht (n - b) b hbb hb1.1 (Nat.le_refl _)
  rw [e] at hlv
  obtain ⟨h3, h4⟩ := chain_len ht (n - b) b hbb hb1.1 (Nat.le_refl _)
  have h5 := inc_len h3 h4
  rw [e] at h5
  have hin : ∀ x ∈ r, x < n := fun x hx => (hlv x hx).2.1
  have hhd : r.headD 0 ∈ r := by
    cases r with
    | nil => simp at hm
    | cons a q => simp
  have hpk : ∀ (X : List Int) j, (hj : j < r.length) → fn (pickL r X) j = fn X (r[j]) := fun X j hj => fn_pickL hj
  refine ⟨hm, by omega, hin, ?_, ?_, (hlv _ hhd).1, lvL_bd hb n _⟩
  · rw [okF_all (fun j hj => by
      rw [hpk l j (by omega)]
      exact okF_get hok (hin _ (List.getElem_mem _)))]
    simp; omega
  · intro j hj
    rw [pickL_len] at hj
    rw [hpk _ j hj]
    have hx := hlv _ (List.getElem_mem hj)
    rw [fn_clL hx.2.1]
    apply clAt_bd (bidi_rng _)
    have := hx.1
    rw [fn_lvL hx.2.1] at this
    exact (lvAt_told hb _).2 this
end Go.Proofs.YtgojdlbidjnmmaaGreat
