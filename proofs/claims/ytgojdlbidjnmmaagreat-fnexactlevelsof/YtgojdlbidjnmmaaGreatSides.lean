import Derived.Test.YtgojdlbidjnmmaaGreatBidi
import Derived.Test.YtgojdlbidjnmmaaGreatMates2
namespace Go.Proofs.YtgojdlbidjnmmaaGreat
open Go.ChangeShapes Go.WideShapes Go.ChangeAt Go.RowKit
set_option linter.unusedSimpArgs false

theorem del_bounds (c : Int) : -1 ≤ del c ∧ del c ≤ 1 := by
  unfold del; split
  · omega
  · split <;> omega
theorem nomate_or {c : Nat → Int} {n i : Nat} (hi : i < n) (ho : opensB (c i) = true) : (∃ j, j < n ∧ MateIs c i j) ∨ NoMate c n i := by
  by_cases h : ∃ j, j < n ∧ MateIs c i j
  · exact .inl h
  · right
    intro m
    induction m using Nat.strongRecOn with
    | _ m ih =>
      intro h1 h2
      by_cases e : m = 1
      · subst e; simp [dp, del, ho]
      · obtain ⟨q, rfl⟩ : ∃ q, m = q + 1 := ⟨m - 1, by omega⟩
        have hq := ih q (by omega) (by omega) (by omega)
        have hd := del_bounds (c (i + q))
        have hs := dp_succ c i q
        by_cases hz : dp c i (q + 1) = 0
        · exfalso
          refine h ⟨i + q, by omega, by omega, ?_, fun m' a b => ?_⟩
          · rw [show i + q + 1 - i = q + 1 by omega]; exact hz
          · exact ih m' (by omega) a (by omega)
        · omega
theorem mt_exists (c : Nat → Int) (n : Nat) : ∃ mt, MateFn c n mt := by
  have : ∀ i, ∃ j, i < n → opensB (c i) = true → (MateIs c i j ∧ j < n) ∨ (j = n ∧ NoMate c n i) := by
    intro i
    by_cases hi : i < n
    · by_cases ho : opensB (c i) = true
      · rcases nomate_or hi ho with ⟨j, h1, h2⟩ | h
        · exact ⟨j, fun _ _ => .inl ⟨h2, h1⟩⟩
        · exact ⟨n, fun _ _ => .inr ⟨rfl, h⟩⟩
      · exact ⟨0, fun _ h => absurd h ho⟩
    · exact ⟨0, fun h => absurd h hi⟩
  exact ⟨fun i => Classical.choose (this i), fun i hi ho => Classical.choose_spec (this i) hi ho⟩
theorem mate_not {c : Nat → Int} {n i j : Nat} (h : MateIs c i j) (hj : j < n) (hn : NoMate c n i) : False := by
  have := hn (j + 1 - i) (by have := h.lt; omega) (by have := h.lt; omega)
  have := h.zero; omega
theorem mt_gt {c : Nat → Int} {n : Nat} {mt : Nat → Nat} (h : MateFn c n mt) {i : Nat} (hi : i < n) (ho : opensB (c i) = true) : i < mt i ∧ mt i ≤ n := by
  rcases h i hi ho with ⟨a, b⟩ | ⟨a, _⟩
  · exact ⟨a.lt, by omega⟩
  · omega

/-- The side of letters from a place up to another one. -/
def sideG (c : Nat → Int) (mt : Nat → Nat) (to : Nat) : Nat → Nat → Int
  | 0, _ => 0
  | d + 1, i => if i < to then (if c i = 1 then 0 else if c i = 2 ∨ c i = 3 then 1 else
      if opensB (c i) = true then (if i < mt i then sideG c mt to d (mt i + 1) else 0) else sideG c mt to d (i + 1)) else 0
theorem sideG_more (c : Nat → Int) (mt : Nat → Nat) (to : Nat) : ∀ d e i, to - i ≤ d → to - i ≤ e → sideG c mt to d i = sideG c mt to e i := by
  intro d
  induction d with
  | zero =>
    intro e i hd he
    cases e with
    | zero => rfl
    | succ e => simp only [sideG]; rw [if_neg (by omega)]
  | succ d ih =>
    intro e i hd he
    by_cases h : i < to
    · cases e with
      | zero => omega
      | succ e =>
        simp only [sideG]
        rw [if_pos h, if_pos h]
        by_cases hm : i < mt i
        · rw [if_pos hm, if_pos hm, ih e (mt i + 1) (by omega) (by omega), ih e (i + 1) (by omega) (by omega)]
        · rw [if_neg hm, if_neg hm, ih e (i + 1) (by omega) (by omega)]
    · simp only [sideG]
      rw [if_neg h]
      cases e with
      | zero => rfl
      | succ e => simp only [sideG]; rw [if_neg h]
def sideFrom (c : Nat → Int) (mt : Nat → Nat) (to i : Nat) : Int := sideG c mt to (to - i) i
theorem side_eq (c : Nat → Int) (mt : Nat → Nat) (to i : Nat) : sideFrom c mt to i =
  if _h : i < to then
    if c i = 1 then 0 else if c i = 2 ∨ c i = 3 then 1 else
    if opensB (c i) = true then (if _h2 : i < mt i then sideFrom c mt to (mt i + 1) else 0) else sideFrom c mt to (i + 1)
  else 0 := by
  unfold sideFrom
  by_cases h : i < to
  · rw [dif_pos h]
    obtain ⟨d, hd⟩ : ∃ d, to - i = d + 1 := ⟨to - i - 1, by omega⟩
    rw [hd]
    simp only [sideG]
    rw [if_pos h]
    by_cases hm : i < mt i
    · rw [if_pos hm, dif_pos hm, sideG_more c mt to d (to - (mt i + 1)) (mt i + 1) (by omega) (by omega), sideG_more c mt to d (to - (i + 1)) (i + 1) (by omega) (by omega)]
    · rw [if_neg hm, dif_neg hm, sideG_more c mt to d (to - (i + 1)) (i + 1) (by omega) (by omega)]
  · rw [dif_neg h, show to - i = 0 by omega]
    rfl
theorem side_end {c : Nat → Int} {mt : Nat → Nat} {to i : Nat} (h : ¬ i < to) : sideFrom c mt to i = 0 := by rw [side_eq, dif_neg h]
theorem side_L {c : Nat → Int} {mt : Nat → Nat} {to i : Nat} (h : i < to) (hc : c i = 1) : sideFrom c mt to i = 0 := by rw [side_eq, dif_pos h, if_pos hc]
theorem side_R {c : Nat → Int} {mt : Nat → Nat} {to i : Nat} (h : i < to) (hn : c i ≠ 1) (hc : c i = 2 ∨ c i = 3) : sideFrom c mt to i = 1 := by rw [side_eq, dif_pos h, if_neg hn, if_pos hc]
theorem side_open {c : Nat → Int} {mt : Nat → Nat} {to i : Nat} (h : i < to) (hn : c i ≠ 1) (hc : ¬ (c i = 2 ∨ c i = 3)) (ho : opensB (c i) = true) (hm : i < mt i) : sideFrom c mt to i = sideFrom c mt to (mt i + 1) := by
  rw [side_eq, dif_pos h, if_neg hn, if_neg hc, if_pos ho, dif_pos hm]
theorem side_other {c : Nat → Int} {mt : Nat → Nat} {to i : Nat} (h : i < to) (hn : c i ≠ 1) (hc : ¬ (c i = 2 ∨ c i = 3)) (ho : opensB (c i) = false) : sideFrom c mt to i = sideFrom c mt to (i + 1) := by
  rw [side_eq, dif_pos h, if_neg hn, if_neg hc, if_neg (by simp [ho])]

/-- The list of mates and the function say the same. -/
def SameMates (c : Nat → Int) (n : Nat) (mt : Nat → Nat) (M : List Int) : Prop :=
  ∀ i, i < n → opensB (c i) = true → (mt i < n ∧ fn M i = (mt i : Int)) ∨ (mt i = n ∧ fn M i = -1)
theorem same_mates {c : Nat → Int} {n : Nat} {mt : Nat → Nat} {M : List Int} (h : MateFn c n mt)
    (hM : ∀ i, i < n → opensB (c i) = true → ((∃ j, j < n ∧ MateIs c i j ∧ fn M i = (j : Int)) ∨ (fn M i = -1 ∧ NoMate c n i))) : SameMates c n mt M := by
  intro i hi ho
  rcases h i hi ho with ⟨a, b⟩ | ⟨a, b⟩
  · rcases hM i hi ho with ⟨j, h1, h2, h3⟩ | ⟨h1, h2⟩
    · have := mate_unique a h2; exact .inl ⟨b, by rw [h3, this]⟩
    · exact (mate_not a b h2).elim
  · rcases hM i hi ho with ⟨j, h1, h2, h3⟩ | ⟨h1, h2⟩
    · exact (mate_not h2 h1 b).elim
    · exact .inr ⟨a, h1⟩

set_option maxHeartbeats 4000000 in
theorem specMateL (b off cap n : Nat) (l : List Int) (mt : Nat → Nat) (a : Int) (p : Nat) (w : World) (hn : l.length = n) (hb : b < w.heap.size) (hat : At w b off l) (hl : n ≤ 4194304) (hmt : Hid (MateFn (cl l) n mt)) (ha : a = (p : Int)) (hp : p < n) (hop : opensB (cl l p) = true) :
    Calls Tryz.prog 121 #[.slice (some ⟨b, off, none⟩) n cap, .int .i64 a] w fun e w' => e = .returned (.int .i64 (mt p : Int)) ∧ Below w.heap.size w w' := by
  subst ha
  go_enter Tryz.func121, Tryz.ntmps121
  go_wp2
  go_loopw [5, 6] (fun d i wr => ∃ (k : Nat) (D : Int), p ≤ k ∧ k ≤ n ∧ i = .int .i64 k ∧ d = .int .i64 D ∧ 0 ≤ D ∧ D ≤ (k : Int) ∧ Hid (D = dp (cl l) p (k - p) ∧ ∀ m, 1 ≤ m → m ≤ k - p → 1 ≤ dp (cl l) p m) ∧ Below w.heap.size w wr) (fun _ i _ => n - (intOf i).toNat)
  case atStart => exact ⟨p, 0, Nat.le_refl _, by omega, rfl, rfl, by omega, by omega, ⟨by simp [dp], fun m h1 h2 => by omega⟩, Below.refl _ _⟩
  case round =>
    obtain ⟨k, D, hpk, hk, rfl, rfl, hD0, hDk, hinv, hbel⟩ := hrel
    by_cases hlt : k < n
    · have hcell : wr.cell? ⟨b, off + k, none⟩ = some (.int .i64 (fn l k)) := (hat.below hbel hb) k (by omega)
      have HS : Hid (dp (cl l) p (k + 1 - p) = D + del (cl l k)) := by
        show dp (cl l) p (k + 1 - p) = D + del (cl l k)
        rw [show k + 1 - p = k - p + 1 by omega, dp_succ, ← hinv.out.1, show p + (k - p) = k by omega]
      have hstep : ∀ D' : Int, D' = dp (cl l) p (k + 1 - p) → 1 ≤ D' → Hid (D' = dp (cl l) p (k + 1 - p) ∧ ∀ m, 1 ≤ m → m ≤ k + 1 - p → 1 ≤ dp (cl l) p m) := by
        intro D' h1 h2
        refine ⟨h1, fun m a1 a2 => ?_⟩
        by_cases e : m = k + 1 - p
        · subst e; omega
        · exact hinv.out.2 m a1 (by omega)
      have HST : Hid _ := hstep
      clear hstep
      obtain ⟨ck, hck⟩ : ∃ ck, cl l k = ck := ⟨_, rfl⟩
      have HCK : Hid (bidi (fn l k) = ck) := hck
      rw [hck] at HS
      have hpos : k = p → ck = cl l p := fun e => by rw [← hck, e]
      have HP : Hid _ := hpos
      clear hpos hck
      cases ho : opensB ck
      · by_cases h22 : ck = 22
        · have h22b : (ck == 22) = true := by simpa using h22
          have hd : del ck = -1 := by rw [h22]; decide
          have hkp : k ≠ p := fun e => by rw [HP.out e, hop] at ho; cases ho
          have hD1 : 1 ≤ D := by rw [hinv.out.1]; exact hinv.out.2 (k - p) (by omega) (Nat.le_refl _)
          by_cases hz : D = 1
          · have hzb : (D - 1 == 0) = true := by simp; omega
            have HM : Hid (mt p = k) := by
              show mt p = k
              have hmk : MateIs (cl l) p k := ⟨by omega, by rw [HS.out, hd]; omega, fun m a1 a2 => hinv.out.2 m a1 a2⟩
              rcases hmt.out p hp hop with ⟨h1, _⟩ | ⟨_, h2⟩
              · exact mate_unique h1 hmk
              · exact (mate_not hmk hlt h2).elim
            clear h22 hd hz
            go_wp2_with (first | (go_at_call 10; refine (specBidi _ _).mono ?_; rintro e w2 ⟨rfl, b2⟩; rw [HCK.out]) | (go_at_call 120; refine (specOpens _ _).mono ?_; rintro e w3 ⟨rfl, rfl⟩))
            go_ret
            exact ⟨by rw [HM.out]; rfl, bstep hbel b2⟩
          · have hzb : (D - 1 == 0) = false := by simp; omega
            clear h22
            go_wp2_with (first | (go_at_call 10; refine (specBidi _ _).mono ?_; rintro e w2 ⟨rfl, b2⟩; rw [HCK.out]) | (go_at_call 120; refine (specOpens _ _).mono ?_; rintro e w3 ⟨rfl, rfl⟩))
            go_roundw
            case rel => exact ⟨k + 1, D - 1, by omega, by omega, by go_num, by go_num, by omega, by omega, HST.out _ (by rw [HS.out, hd]; omega) (by omega), bstep hbel b2⟩
            case measure => simp only [intOf]; omega
        · have h22b : (ck == 22) = false := by simpa using h22
          have hd : del ck = 0 := by simp [del, ho, h22]
          have hkp : k ≠ p := fun e => by rw [HP.out e, hop] at ho; cases ho
          have hD1 : 1 ≤ D := by rw [hinv.out.1]; exact hinv.out.2 (k - p) (by omega) (Nat.le_refl _)
          have hzb : (D == 0) = false := by simp; omega
          clear h22
          go_wp2_with (first | (go_at_call 10; refine (specBidi _ _).mono ?_; rintro e w2 ⟨rfl, b2⟩; rw [HCK.out]) | (go_at_call 120; refine (specOpens _ _).mono ?_; rintro e w3 ⟨rfl, rfl⟩))
          go_roundw
          case rel => exact ⟨k + 1, D, by omega, by omega, by go_num, rfl, by omega, by omega, HST.out _ (by rw [HS.out, hd]; omega) (by omega), bstep hbel b2⟩
          case measure => simp only [intOf]; omega
      · have h22b : (ck == 22) = false := by simp [opensB] at ho; simp; omega
        have hd : del ck = 1 := by simp [del, ho]
        have hzb : (D + 1 == 0) = false := by simp; omega
        go_wp2_with (first | (go_at_call 10; refine (specBidi _ _).mono ?_; rintro e w2 ⟨rfl, b2⟩; rw [HCK.out]) | (go_at_call 120; refine (specOpens _ _).mono ?_; rintro e w3 ⟨rfl, rfl⟩))
        go_roundw
        case rel => exact ⟨k + 1, D + 1, by omega, by omega, by go_num, by go_num, by omega, by omega, HST.out _ (by rw [HS.out, hd]) (by omega), bstep hbel b2⟩
        case measure => simp only [intOf]; omega
    · have e : k = n := by omega
      subst e
      have HM : Hid (mt p = k) := by
        show mt p = k
        rcases hmt.out p hp hop with ⟨h1, h2⟩ | ⟨h1, _⟩
        · exact (mate_not h1 h2 (fun m a1 a2 => hinv.out.2 m a1 a2)).elim
        · exact h1
      go_wp2_with fail
      go_ret
      exact ⟨by rw [HM.out]; rfl, hbel⟩
end Go.Proofs.YtgojdlbidjnmmaaGreat
