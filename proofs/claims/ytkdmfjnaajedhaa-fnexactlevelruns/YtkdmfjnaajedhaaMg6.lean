import Derived.Test.YtkdmfjnaajedhaaMg3
import Derived.Test.YtkdmfjnaajedhaaMg5
import Derived.Test.YtkdmfjnaajedhaaMg2
import Derived.Maps.AppendAt
namespace Go.Proofs.Ytkdmfjnaajedhaa
open Go.ChangeShapes Go.WideShapes Go.ChangeAt Go.RowKit
set_option linter.unusedSimpArgs false

theorem del_bounds (c : Int) : -1 ≤ del c ∧ del c ≤ 1 := by
  unfold del; split
  · omega
  · split <;> omega
theorem nomate_or {c : Nat → Int} {n i : Nat} (hi : i < n) (ho : opensB (c i) = true) : (∃ j, j < n ∧ MateIs c i j) ∨ NoMate c n i := by
  by_cases h : ∃ j, j < n ∧ MateIs c i j
  · exact .inl h
  · right
    intro m
    induction m using Nat.strongRecOn with
    | _ m ih =>
      intro h1 h2
      by_cases e : m = 1
      · subst e; simp [dp, del, ho]
      · obtain ⟨q, rfl⟩ : ∃ q, m = q + 1 := ⟨m - 1, by omega⟩
        have hq := ih q (by omega) (by omega) (by omega)
        have hd := del_bounds (c (i + q))
        have hs := dp_succ c i q
        by_cases hz : dp c i (q + 1) = 0
        · exfalso
          refine h ⟨i + q, by omega, by omega, ?_, fun m' a b => ?_⟩
          · rw [show i + q + 1 - i = q + 1 by omega]; exact hz
          · exact ih m' (by omega) a (by omega)
        · omega
theorem mt_exists (c : Nat → Int) (n : Nat) : ∃ mt, MateFn c n mt := by
  have : ∀ i, ∃ j, i < n → opensB (c i) = true → (MateIs c i j ∧ j < n) ∨ (j = n ∧ NoMate c n i) := by
    intro i
    by_cases hi : i < n
    · by_cases ho : opensB (c i) = true
      · rcases nomate_or hi ho with ⟨j, h1, h2⟩ | h
        · exact ⟨j, fun _ _ => .inl ⟨h2, h1⟩⟩
        · exact ⟨n, fun _ _ => .inr ⟨rfl, h⟩⟩
      · exact ⟨0, fun _ h => absurd h ho⟩
    · exact ⟨0, fun h => absurd h hi⟩
  exact ⟨fun i => Classical.choose (this i), fun i hi ho => Classical.choose_spec (this i) hi ho⟩
theorem mate_not {c : Nat → Int} {n i j : Nat} (h : MateIs c i j) (hj : j < n) (hn : NoMate c n i) : False := by
  have := hn (j + 1 - i) (by have := h.lt; omega) (by have := h.lt; omega)
  have := h.zero; omega
theorem mt_gt {c : Nat → Int} {n : Nat} {mt : Nat → Nat} (h : MateFn c n mt) {i : Nat} (hi : i < n) (ho : opensB (c i) = true) : i < mt i ∧ mt i ≤ n := by
  rcases h i hi ho with ⟨a, b⟩ | ⟨a, _⟩
  · exact ⟨a.lt, by omega⟩
  · omega

/-- The side of letters from a place up to another one. -/
def sideG (c : Nat → Int) (mt : Nat → Nat) (tt : Nat) : Nat → Nat → Int
  | 0, _ => 0
  | d + 1, i => if i < tt then (if c i = 1 then 0 else if c i = 2 ∨ c i = 3 then 1 else
      if opensB (c i) = true then (if i < mt i then sideG c mt tt d (mt i + 1) else 0) else sideG c mt tt d (i + 1)) else 0
theorem sideG_more (c : Nat → Int) (mt : Nat → Nat) (tt : Nat) : ∀ d e i, tt - i ≤ d → tt - i ≤ e → sideG c mt tt d i = sideG c mt tt e i := by
  intro d
  induction d with
  | zero =>
    intro e i hd he
    cases e with
    | zero => rfl
    | succ e => simp only [sideG]; rw [if_neg (by omega)]
  | succ d ih =>
    intro e i hd he
    by_cases h : i < tt
    · cases e with
      | zero => omega
      | succ e =>
        simp only [sideG]
        rw [if_pos h, if_pos h]
        by_cases hm : i < mt i
        · rw [if_pos hm, if_pos hm, ih e (mt i + 1) (by omega) (by omega), ih e (i + 1) (by omega) (by omega)]
        · rw [if_neg hm, if_neg hm, ih e (i + 1) (by omega) (by omega)]
    · simp only [sideG]
      rw [if_neg h]
      cases e with
      | zero => rfl
      | succ e => simp only [sideG]; rw [if_neg h]
def sideFrom (c : Nat → Int) (mt : Nat → Nat) (tt i : Nat) : Int := sideG c mt tt (tt - i) i
theorem side_eq (c : Nat → Int) (mt : Nat → Nat) (tt i : Nat) : sideFrom c mt tt i =
  if _h : i < tt then
    if c i = 1 then 0 else if c i = 2 ∨ c i = 3 then 1 else
    if opensB (c i) = true then (if _h2 : i < mt i then sideFrom c mt tt (mt i + 1) else 0) else sideFrom c mt tt (i + 1)
  else 0 := by
  unfold sideFrom
  by_cases h : i < tt
  · rw [dif_pos h]
    obtain ⟨d, hd⟩ : ∃ d, tt - i = d + 1 := ⟨tt - i - 1, by omega⟩
    rw [hd]
    simp only [sideG]
    rw [if_pos h]
    by_cases hm : i < mt i
    · rw [if_pos hm, dif_pos hm, sideG_more c mt tt d (tt - (mt i + 1)) (mt i + 1) (by omega) (by omega), sideG_more c mt tt d (tt - (i + 1)) (i + 1) (by omega) (by omega)]
    · rw [if_neg hm, dif_neg hm, sideG_more c mt tt d (tt - (i + 1)) (i + 1) (by omega) (by omega)]
  · rw [dif_neg h, show tt - i = 0 by omega]
    rfl
theorem side_end {c : Nat → Int} {mt : Nat → Nat} {tt i : Nat} (h : ¬ i < tt) : sideFrom c mt tt i = 0 := by rw [side_eq, dif_neg h]
theorem side_L {c : Nat → Int} {mt : Nat → Nat} {tt i : Nat} (h : i < tt) (hc : c i = 1) : sideFrom c mt tt i = 0 := by rw [side_eq, dif_pos h, if_pos hc]
theorem side_R {c : Nat → Int} {mt : Nat → Nat} {tt i : Nat} (h : i < tt) (hn : c i ≠ 1) (hc : c i = 2 ∨ c i = 3) : sideFrom c mt tt i = 1 := by rw [side_eq, dif_pos h, if_neg hn, if_pos hc]
theorem side_open {c : Nat → Int} {mt : Nat → Nat} {tt i : Nat} (h : i < tt) (hn : c i ≠ 1) (hc : ¬ (c i = 2 ∨ c i = 3)) (ho : opensB (c i) = true) (hm : i < mt i) : sideFrom c mt tt i = sideFrom c mt tt (mt i + 1) := by
  rw [side_eq, dif_pos h, if_neg hn, if_neg hc, if_pos ho, dif_pos hm]
theorem side_other {c : Nat → Int} {mt : Nat → Nat} {tt i : Nat} (h : i < tt) (hn : c i ≠ 1) (hc : ¬ (c i = 2 ∨ c i = 3)) (ho : opensB (c i) = false) : sideFrom c mt tt i = sideFrom c mt tt (i + 1) := by
  rw [side_eq, dif_pos h, if_neg hn, if_neg hc, if_neg (by simp [ho])]

/-- The list of mates and the function say the same. -/
def SameMates (c : Nat → Int) (n : Nat) (mt : Nat → Nat) (M : List Int) : Prop :=
  ∀ i, i < n → opensB (c i) = true → (mt i < n ∧ fn M i = (mt i : Int)) ∨ (mt i = n ∧ fn M i = -1)
theorem same_mates {c : Nat → Int} {n : Nat} {mt : Nat → Nat} {M : List Int} (h : MateFn c n mt)
    (hM : ∀ i, i < n → opensB (c i) = true → ((∃ j, j < n ∧ MateIs c i j ∧ fn M i = (j : Int)) ∨ (fn M i = -1 ∧ NoMate c n i))) : SameMates c n mt M := by
  intro i hi ho
  rcases h i hi ho with ⟨a, b⟩ | ⟨a, b⟩
  · rcases hM i hi ho with ⟨j, h1, h2, h3⟩ | ⟨h1, h2⟩
    · have := mate_unique a h2; exact .inl ⟨b, by rw [h3, this]⟩
    · exact (mate_not a b h2).elim
  · rcases hM i hi ho with ⟨j, h1, h2, h3⟩ | ⟨h1, h2⟩
    · exact (mate_not h2 h1 b).elim
    · exact .inr ⟨a, h1⟩

set_option maxHeartbeats 4000000 in
theorem specMateL (b off cap n : Nat) (l : List Int) (mt : Nat → Nat) (a : Int) (p : Nat) (w : World) (hn : l.length = n) (hb : b < w.heap.size) (hat : At w b off l) (hl : n ≤ 4194304) (hmt : Hid (MateFn (cl l) n mt)) (ha : a = (p : Int)) (hp : p < n) (hop : opensB (cl l p) = true) :
    Calls Try.prog 55 #[.slice (some ⟨b, off, none⟩) n cap, .int .i64 a] w fun e w' => e = .returned (.int .i64 (mt p : Int)) ∧ Below w.heap.size w w' := by
  subst ha
  go_enter Try.func55, Try.ntmps55
  go_wp2
  go_loopw [5, 6] (fun d i wr => ∃ (k : Nat) (D : Int), p ≤ k ∧ k ≤ n ∧ i = .int .i64 k ∧ d = .int .i64 D ∧ 0 ≤ D ∧ D ≤ (k : Int) ∧ Hid (D = dp (cl l) p (k - p) ∧ ∀ m, 1 ≤ m → m ≤ k - p → 1 ≤ dp (cl l) p m) ∧ Below w.heap.size w wr) (fun _ i _ => n - (intOf i).toNat)
  case atStart => exact ⟨p, 0, Nat.le_refl _, by omega, rfl, rfl, by omega, by omega, ⟨by simp [dp], fun m h1 h2 => by omega⟩, Below.refl _ _⟩
  case round =>
    obtain ⟨k, D, hpk, hk, rfl, rfl, hD0, hDk, hinv, hbel⟩ := hrel
    by_cases hlt : k < n
    · have hcell : wr.cell? ⟨b, off + k, none⟩ = some (.int .i64 (fn l k)) := (hat.below hbel hb) k (by omega)
      have HS : Hid (dp (cl l) p (k + 1 - p) = D + del (cl l k)) := by
        show dp (cl l) p (k + 1 - p) = D + del (cl l k)
        rw [show k + 1 - p = k - p + 1 by omega, dp_succ, ← hinv.out.1, show p + (k - p) = k by omega]
      have hstep : ∀ D' : Int, D' = dp (cl l) p (k + 1 - p) → 1 ≤ D' → Hid (D' = dp (cl l) p (k + 1 - p) ∧ ∀ m, 1 ≤ m → m ≤ k + 1 - p → 1 ≤ dp (cl l) p m) := by
        intro D' h1 h2
        refine ⟨h1, fun m a1 a2 => ?_⟩
        by_cases e : m = k + 1 - p
        · subst e; omega
        · exact hinv.out.2 m a1 (by omega)
      have HST : Hid _ := hstep
      clear hstep
      obtain ⟨ck, hck⟩ : ∃ ck, cl l k = ck := ⟨_, rfl⟩
      have HCK : Hid (bidi (fn l k) = ck) := hck
      rw [hck] at HS
      have hpos : k = p → ck = cl l p := fun e => by rw [← hck, e]
      have HP : Hid _ := hpos
      clear hpos hck
      cases ho : opensB ck
      · by_cases h22 : ck = 22
        · have h22b : (ck == 22) = true := by simpa using h22
          have hd : del ck = -1 := by rw [h22]; decide
          have hkp : k ≠ p := fun e => by rw [HP.out e, hop] at ho; cases ho
          have hD1 : 1 ≤ D := by rw [hinv.out.1]; exact hinv.out.2 (k - p) (by omega) (Nat.le_refl _)
          by_cases hz : D = 1
          · have hzb : (D - 1 == 0) = true := by simp; omega
            have HM : Hid (mt p = k) := by
              show mt p = k
              have hmk : MateIs (cl l) p k := ⟨by omega, by rw [HS.out, hd]; omega, fun m a1 a2 => hinv.out.2 m a1 a2⟩
              rcases hmt.out p hp hop with ⟨h1, _⟩ | ⟨_, h2⟩
              · exact mate_unique h1 hmk
              · exact (mate_not hmk hlt h2).elim
            clear h22 hd hz
            go_wp2_with (first | (go_at_call 40; refine (specBidi _ _).mono ?_; rintro e w2 ⟨rfl, b2⟩; rw [HCK.out]) | (go_at_call 64; refine (specOpens _ _).mono ?_; rintro e w3 ⟨rfl, rfl⟩))
            go_ret
            exact ⟨by rw [HM.out]; rfl, bstep hbel b2⟩
          · have hzb : (D - 1 == 0) = false := by simp; omega
            clear h22
            go_wp2_with (first | (go_at_call 40; refine (specBidi _ _).mono ?_; rintro e w2 ⟨rfl, b2⟩; rw [HCK.out]) | (go_at_call 64; refine (specOpens _ _).mono ?_; rintro e w3 ⟨rfl, rfl⟩))
            go_roundw
            case rel => exact ⟨k + 1, D - 1, by omega, by omega, by go_num, by go_num, by omega, by omega, HST.out _ (by rw [HS.out, hd]; omega) (by omega), bstep hbel b2⟩
            case measure => simp only [intOf]; omega
        · have h22b : (ck == 22) = false := by simpa using h22
          have hd : del ck = 0 := by simp [del, ho, h22]
          have hkp : k ≠ p := fun e => by rw [HP.out e, hop] at ho; cases ho
          have hD1 : 1 ≤ D := by rw [hinv.out.1]; exact hinv.out.2 (k - p) (by omega) (Nat.le_refl _)
          have hzb : (D == 0) = false := by simp; omega
          clear h22
          go_wp2_with (first | (go_at_call 40; refine (specBidi _ _).mono ?_; rintro e w2 ⟨rfl, b2⟩; rw [HCK.out]) | (go_at_call 64; refine (specOpens _ _).mono ?_; rintro e w3 ⟨rfl, rfl⟩))
          go_roundw
          case rel => exact ⟨k + 1, D, by omega, by omega, by go_num, rfl, by omega, by omega, HST.out _ (by rw [HS.out, hd]; omega) (by omega), bstep hbel b2⟩
          case measure => simp only [intOf]; omega
      · have h22b : (ck == 22) = false := by simp [opensB] at ho; simp; omega
        have hd : del ck = 1 := by simp [del, ho]
        have hzb : (D + 1 == 0) = false := by simp; omega
        go_wp2_with (first | (go_at_call 40; refine (specBidi _ _).mono ?_; rintro e w2 ⟨rfl, b2⟩; rw [HCK.out]) | (go_at_call 64; refine (specOpens _ _).mono ?_; rintro e w3 ⟨rfl, rfl⟩))
        go_roundw
        case rel => exact ⟨k + 1, D + 1, by omega, by omega, by go_num, by go_num, by omega, by omega, HST.out _ (by rw [HS.out, hd]) (by omega), bstep hbel b2⟩
        case measure => simp only [intOf]; omega
    · have e : k = n := by omega
      subst e
      have HM : Hid (mt p = k) := by
        show mt p = k
        rcases hmt.out p hp hop with ⟨h1, h2⟩ | ⟨h1, _⟩
        · exact (mate_not h1 h2 (fun m a1 a2 => hinv.out.2 m a1 a2)).elim
        · exact h1
      go_wp2_with fail
      go_ret
      exact ⟨by rw [HM.out]; rfl, hbel⟩
end Go.Proofs.Ytkdmfjnaajedhaa
namespace Go.Proofs.Ytkdmfjnaajedhaa
set_option linter.unusedSimpArgs false
set_option linter.unusedVariables false

/-- What letters, their levels and mates are, up to n. -/
structure Txt (c lv : Nat → Int) (n : Nat) (mt : Nat → Nat) : Prop where
  mates : MateFn c n mt
  win : ∀ i, i < n → opensB (c i) = true → mt i < n → WinAt c lv i (mt i)

section
variable {c lv : Nat → Int} {n : Nat} {mt : Nat → Nat}
/-- What goes on with a piece. -/
def scN (c lv : Nat → Int) (n : Nat) (mt : Nat → Nat) (b : Nat) : Option Nat :=
  if opensB (c (lastP lv b n)) = true ∧ mt (lastP lv b n) < n then some (mt (lastP lv b n)) else none
def chainF (c lv : Nat → Int) (n : Nat) (mt : Nat → Nat) : Nat → Nat → List Nat
  | 0, b => pieceN lv b n
  | f + 1, b => pieceN lv b n ++ (match scN c lv n mt b with | some j => chainF c lv n mt f j | none => [])
def chainN (c lv : Nat → Int) (n : Nat) (mt : Nat → Nat) (b : Nat) : List Nat := chainF c lv n mt n b
/-- It ends something that is read by itself. -/
def closN (c : Nat → Int) (mt : Nat → Nat) (b : Nat) : Bool := (List.range b).any fun i => opensB (c i) && mt i == b
def startN (c lv : Nat → Int) (mt : Nat → Nat) (b : Nat) : Bool := begB lv b && !(decide (c b = 22) && closN c mt b)
def runsTo (c lv : Nat → Int) (n : Nat) (mt : Nat → Nat) (k : Nat) : List (List Nat) := ((List.range k).filter (startN c lv mt)).map (chainN c lv n mt)

theorem sc_some (ht : Txt c lv n mt) {b j : Nat} (hb : begB lv b = true) (hbn : b < n) (h : scN c lv n mt b = some j) :
    opensB (c (lastP lv b n)) = true ∧ mt (lastP lv b n) = j ∧ j < n ∧ begB lv j = true ∧ b < j ∧ MateIs c (lastP lv b n) j ∧ c j = 22 ∧ closN c mt j = true := by
  unfold scN at h
  split at h
  · rename_i hc
    simp only [Option.some.injEq] at h
    obtain ⟨a1, a2, a3⟩ := last_spec hb hbn
    have hm : MateIs c (lastP lv b n) (mt (lastP lv b n)) := by
      rcases ht.mates _ a2 hc.1 with ⟨q, _⟩ | ⟨q, _⟩
      · exact q
      · omega
    have hlt := hm.lt
    have hle := of_le a1
    have hw := ht.win _ a2 hc.1 hc.2
    refine ⟨hc.1, h, by omega, ?_, by omega, by rw [← h]; exact hm, by rw [← h]; exact (mate_class hm).1, ?_⟩
    · rw [← h]; exact mate_beg hw hlt hc.2 rfl hb hbn
    · unfold closN
      rw [List.any_eq_true]
      exact ⟨lastP lv b n, by rw [List.mem_range]; omega, by simp [hc.1, h]⟩
  · cases h
theorem chainF_more (ht : Txt c lv n mt) : ∀ d e b, begB lv b = true → b < n → n - b ≤ d → n - b ≤ e → chainF c lv n mt d b = chainF c lv n mt e b := by
  intro d
  induction d with
  | zero => intro e b hb hbn h1 h2; omega
  | succ d ih =>
    intro e b hb hbn h1 h2
    cases e with
    | zero => omega
    | succ e =>
      simp only [chainF]
      cases hs : scN c lv n mt b with
      | none => rfl
      | some j =>
        obtain ⟨_, _, hj, hbj, hlt, _⟩ := sc_some ht hb hbn hs
        simp only
        rw [ih e j hbj hj (by omega) (by omega)]
theorem chain_eq (ht : Txt c lv n mt) {b : Nat} (hb : begB lv b = true) (hbn : b < n) :
    chainN c lv n mt b = pieceN lv b n ++ (match scN c lv n mt b with | some j => chainN c lv n mt j | none => []) := by
  unfold chainN
  obtain ⟨d, hd⟩ : ∃ d, n = d + 1 := ⟨n - 1, by omega⟩
  rw [show chainF c lv n mt n b = chainF c lv n mt (d + 1) b by rw [← hd]]
  simp only [chainF]
  cases hs : scN c lv n mt b with
  | none => rfl
  | some j =>
    obtain ⟨_, _, hj, hbj, hlt, _⟩ := sc_some ht hb hbn hs
    simp only
    rw [chainF_more ht d n j hbj hj (by omega) (by omega)]

theorem piece_succ (lv : Nat → Int) (b k : Nat) : pieceN lv b (k + 1) = pieceN lv b k ++ (if ofB lv b k = true then [k] else []) := by
  unfold pieceN
  rw [List.range_succ, List.filter_append]
  congr 1
  simp only [List.filter_cons, List.filter_nil]
/-- The first of a piece. -/
theorem piece_at (lv : Nat → Int) {b : Nat} (hb : begB lv b = true) : pieceN lv b b = [] := by
  unfold pieceN
  rw [List.filter_eq_nil_iff]
  intro x hx h
  rw [List.mem_range] at hx
  have := of_le h; omega
theorem piece_more {lv : Nat → Int} {b k m : Nat} (h : k ≤ m) (hno : ∀ x, k ≤ x → x < m → ofB lv b x = false) : pieceN lv b m = pieceN lv b k := by
  induction m with
  | zero => have : k = 0 := by omega
            subst this; rfl
  | succ m ih =>
    by_cases e : k = m + 1
    · subst e; rfl
    · rw [piece_succ, hno m (by omega) (by omega), ih (by omega) (fun x a b => hno x a (by omega))]; simp
theorem piece_last {lv : Nat → Int} {b : Nat} (hb : begB lv b = true) : ∀ k, b < k → ∃ p, pieceN lv b k = p ++ [lastP lv b k] := by
  intro k
  induction k with
  | zero => intro h; omega
  | succ k ih =>
    intro h
    rw [piece_succ]
    simp only [lastP]
    by_cases ho : ofB lv b k = true
    · rw [if_pos ho, if_pos ho]; exact ⟨_, rfl⟩
    · rw [if_neg ho, if_neg ho, List.append_nil]
      by_cases e : b = k
      · subst e; exact absurd (of_b hb) ho
      · exact ih (by omega)
theorem piece_mem {lv : Nat → Int} {b k x : Nat} : x ∈ pieceN lv b k ↔ x < k ∧ ofB lv b x = true := by
  unfold pieceN; rw [List.mem_filter, List.mem_range]
theorem piece_ne {lv : Nat → Int} {b n : Nat} (hb : begB lv b = true) (hbn : b < n) : pieceN lv b n ≠ [] := by
  obtain ⟨p, hp⟩ := piece_last hb n hbn
  rw [hp]; simp
theorem piece_head {lv : Nat → Int} {b n : Nat} (hb : begB lv b = true) (hbn : b < n) : ∃ r, pieceN lv b n = b :: r := by
  have h1 : pieceN lv b (b + 1) = [b] := by rw [piece_succ, piece_at lv hb, if_pos (of_b hb)]; rfl
  have : ∀ d, ∃ r, pieceN lv b (b + 1 + d) = b :: r := by
    intro d
    induction d with
    | zero => exact ⟨[], h1⟩
    | succ d ih =>
      obtain ⟨r, hr⟩ := ih
      refine ⟨r ++ (if ofB lv b (b + 1 + d) = true then [b + 1 + d] else []), ?_⟩
      show pieceN lv b (b + 1 + d + 1) = _
      rw [piece_succ, hr]; rfl
  obtain ⟨r, hr⟩ := this (n - (b + 1))
  rw [show b + 1 + (n - (b + 1)) = n by omega] at hr
  exact ⟨r, hr⟩
/-- Pieces lie one behind the other: what has a level up to the last one of a piece is of it. -/
theorem piece_full {lv : Nat → Int} {b n x : Nat} (hb : begB lv b = true) (hbn : b < n) (h1 : b ≤ x) (h2 : x ≤ lastP lv b n) (hs : 0 ≤ lv x) : ofB lv b x = true := by
  obtain ⟨a1, _, _⟩ := last_spec hb hbn
  have e := (of_seen a1).2
  have m1 := bg_mono (lv := lv) (show b + 1 ≤ x + 1 by omega)
  have m2 := bg_mono (lv := lv) (show x + 1 ≤ lastP lv b n + 1 by omega)
  rw [bg_beg hb] at m1
  exact of_mk hs (by omega)
/-- Behind a piece the next one with a level begins another one. -/
theorem next_beg {lv : Nat → Int} {b n k : Nat} (hb : begB lv b = true) (hbn : b < n) (h1 : lastP lv b n < k) (h2 : k < n) (hno : ∀ x, lastP lv b n < x → x < k → lv x < 0) (hs : 0 ≤ lv k) : begB lv k = true := by
  obtain ⟨a1, a2, a3⟩ := last_spec hb hbn
  cases h : begB lv k with
  | true => rfl
  | false =>
    exfalso
    have hbg : ∀ d, lastP lv b n + 1 + d ≤ k → bgL lv (lastP lv b n + 1 + d) = b := by
      intro d
      induction d with
      | zero => intro _; exact (of_seen a1).2
      | succ d ih =>
        intro hd
        show bgL lv (lastP lv b n + 1 + d + 1) = b
        rw [bg_stay (bg_unseen (hno _ (by omega) (by omega)))]
        exact ih (by omega)
    have := hbg (k - (lastP lv b n + 1)) (by omega)
    rw [show lastP lv b n + 1 + (k - (lastP lv b n + 1)) = k by omega] at this
    have := a3 k h1 h2
    rw [of_mk hs (by rw [bg_stay h]; assumption)] at this
    cases this
theorem runs_more {k m : Nat} (h : k ≤ m) (hno : ∀ x, k ≤ x → x < m → startN c lv mt x = false) : runsTo c lv n mt m = runsTo c lv n mt k := by
  unfold runsTo
  congr 1
  induction m with
  | zero => have : k = 0 := by omega
            subst this; rfl
  | succ m ih =>
    by_cases e : k = m + 1
    · subst e; rfl
    · rw [List.range_succ, List.filter_append, ih (by omega) (fun x a b => hno x a (by omega))]
      simp [hno m (by omega) (by omega)]
theorem runs_succ (k : Nat) : runsTo c lv n mt (k + 1) = runsTo c lv n mt k ++ (if startN c lv mt k = true then [chainN c lv n mt k] else []) := by
  unfold runsTo
  rw [List.range_succ, List.filter_append, List.map_append]
  congr 1
  by_cases h : startN c lv mt k = true
  · rw [if_pos h]; simp [h]
  · rw [if_neg h]; simp [h]
theorem start_beg {x : Nat} (h : startN c lv mt x = true) : begB lv x = true := by
  unfold startN at h; rw [Bool.and_eq_true] at h; exact h.1
theorem no_start {x : Nat} (h : begB lv x = false) : startN c lv mt x = false := by unfold startN; rw [h]; rfl
/-- Within a piece, behind its beginning, none begins; nor where nothing has a level. -/
theorem no_beg_in {b n x : Nat} (hb : begB lv b = true) (hbn : b < n) (h1 : b < x) (h2 : x ≤ lastP lv b n) : begB lv x = false := by
  cases h : begB lv x with
  | false => rfl
  | true =>
    have := piece_full hb hbn (by omega) h2 (beg_seen h)
    have := (of_seen this).2
    rw [bg_beg h] at this; omega
end
end Go.Proofs.Ytkdmfjnaajedhaa
namespace Go.Proofs.Ytkdmfjnaajedhaa
open Go.ChangeShapes Go.WideShapes Go.ChangeAt Go.RowKit
set_option linter.unusedSimpArgs false

/-- A slice that owns its elements, k cells each, T their type. -/
def OwnV (T : TypeId) (k : Nat) (w : World) (B : Nat) (v : Value) (n : Nat) (xs : List Value) : Prop := w.ownsRow B T k v n xs
section
variable {T : TypeId} {k : Nat} {w w' : World} {B n : Nat} {v u : Value} {xs : List Value}
theorem OwnV.len (h : OwnV T k w B v n xs) : xs.length = n * k := h.1
theorem OwnV.lt (h : OwnV T k w B v n xs) : ∀ b, v.ownBlock = some b → B ≤ b ∧ b < w.heap.size := World.ownsRow.lt h
theorem OwnV.kept (h : OwnV T k w B v n xs) (hb : ∀ b, v.ownBlock = some b → w'.heap[b]? = w.heap[b]?) : OwnV T k w' B v n xs := by
  refine ⟨h.1, ?_⟩
  rcases h.2 with h | ⟨g, cap, cur, rfl, h2, h3, h4⟩
  · exact .inl h
  · exact .inr ⟨g, cap, cur, rfl, h2, (hb g rfl).trans h3, h4⟩
theorem OwnV.below (h : OwnV T k w B v n xs) (hb : Below w.heap.size w w') : OwnV T k w' B v n xs :=
  h.kept fun b hk => hb.block b (h.lt b hk).2
theorem OwnV.mono {B' : Nat} (h : OwnV T k w B v n xs) (hB : B' ≤ B) : OwnV T k w B' v n xs := by
  refine ⟨h.1, ?_⟩
  rcases h.2 with h | ⟨g, cap, cur, h1, h2, h3⟩
  · exact .inl h
  · exact .inr ⟨g, cap, cur, h1, Nat.le_trans hB h2, h3⟩
theorem OwnV.nil (T : TypeId) (k : Nat) (w : World) (B : Nat) : OwnV T k w B (.slice none 0 0) 0 [] := World.ownsRow_nil w B _ k
theorem OwnV.empty (T T' : TypeId) (k : Nat) (w : World) (B : Nat) (h : B ≤ w.heap.size) (hT : T' = T) : OwnV T k (w.alloc (.cells #[] T')) B (.slice (some ⟨w.heap.size, 0, none⟩) 0 0) 0 [] := by
  subst hT
  exact World.ownsRow_made w #[] 0 h (by unfold maxLen; omega) (by simp)
theorem OwnV.lit (T T' : TypeId) (k : Nat) (w : World) (B n : Nat) (cs : Array Value) (h : B ≤ w.heap.size) (hm : n ≤ maxLen) (hs : cs.size = n * k) (hT : T' = T) : OwnV T k (w.alloc (.cells cs T')) B (.slice (some ⟨w.heap.size, 0, none⟩) n n) n cs.toList := by
  subst hT
  exact World.ownsRow_lit w cs n h hm hs
theorem OwnV.forms (h : OwnV T k w B v n xs) :
    (v = .slice none 0 0 ∧ n = 0) ∨ ∃ g cap, v = .slice (some ⟨g, 0, none⟩) n cap ∧ B ≤ g ∧ g < w.heap.size ∧ n ≤ cap ∧ cap ≤ maxLen := by
  rcases h.2 with ⟨h1, h2⟩ | ⟨g, cap, cur, h1, h2, h3, h4, h5, h6, h7⟩
  · exact .inl ⟨h1, h2⟩
  · exact .inr ⟨g, cap, h1, h2, (Array.getElem?_eq_some_iff.1 h3).1, h4, h5⟩
theorem OwnV.slc (h : OwnV T k w B v n xs) : ∃ a cap, v = .slice a n cap := by
  rcases h.forms with ⟨rfl, rfl⟩ | ⟨g, cap, rfl, _⟩
  · exact ⟨_, _, rfl⟩
  · exact ⟨_, _, rfl⟩
theorem OwnV.form1 (h : OwnV T k w B v n xs) (hn : 0 < n) : ∃ g cap, v = .slice (some ⟨g, 0, none⟩) n cap ∧ B ≤ g ∧ g < w.heap.size ∧ n ≤ cap ∧ cap ≤ maxLen := by
  rcases h.forms with ⟨_, e⟩ | h
  · omega
  · exact h
theorem OwnV.cell {g cap : Nat} (h : OwnV T k w B (.slice (some ⟨g, 0, none⟩) n cap) n xs) (j : Nat) (hj : j < n * k) : w.cell? ⟨g, j, none⟩ = xs[j]? :=
  World.ownsRow.cellAt h j hj
theorem OwnV.frozen {g cap : Nat} (h : OwnV T k w B (.slice (some ⟨g, 0, none⟩) n cap) n xs) (j : Nat) : w.frozen? ⟨g, j, none⟩ = false :=
  World.ownsRow.frozenAt h j
theorem OwnV.stored {g cap : Nat} (h : OwnV T k w B (.slice (some ⟨g, 0, none⟩) n cap) n xs) (j : Nat) (x : Value) : OwnV T k (w.setCell ⟨g, j, none⟩ x) B (.slice (some ⟨g, 0, none⟩) n cap) n (xs.set j x) :=
  (World.ownsRow.stored h j x).1
theorem OwnV.head {g cap : Nat} (h : OwnV T k w B (.slice (some ⟨g, 0, none⟩) n cap) n xs) (m : Nat) (hm : m ≤ n) : OwnV T k w B (.slice (some ⟨g, 0, none⟩) m cap) m (xs.take (m * k)) := by
  have e := h.len
  have hmk : m * k ≤ n * k := Nat.mul_le_mul_right k hm
  refine ⟨by rw [List.length_take]; omega, ?_⟩
  rcases h.2 with ⟨h1, _⟩ | ⟨g', cap', cur, h1, h2, h3, h4, h5, h6, h7⟩
  · cases h1
  · simp only [Value.slice.injEq, Option.some.injEq, Addr.mk.injEq] at h1
    obtain ⟨⟨rfl, _⟩, _, rfl⟩ := h1
    refine .inr ⟨g, cap, cur, rfl, h2, h3, by omega, h5, h6, ?_⟩
    rw [← h7, List.take_take]
    congr 1; omega
theorem OwnV.drewN (h : OwnV T k w B v n xs) (m : Nat) : OwnV T k (w.drewN m) B v n xs := h
theorem OwnV.alloc (h : OwnV T k w B v n xs) (o : Obj) : OwnV T k (w.alloc o) B v n xs := World.ownsRow.alloc h o
theorem OwnV.setOther {b j : Nat} {x : Value} (h : OwnV T k w B v n xs) (hne : v.ownBlock ≠ some b) : OwnV T k (w.setCell ⟨b, j, none⟩ x) B v n xs :=
  h.kept fun c hc => heap_setCell_other w ⟨b, j, none⟩ c x (fun e => hne (by rw [hc, e]))
end

/-- What is known of a type of k cells. -/
def RowT (T : TypeId) (k b : Nat) : Prop := (Try.prog.info? T).map (fun i => (i.size, i.bytes)) = some (k, b) ∧ ((Try.prog.info? T).bind (fun i => i.zero)).map (fun z => z.cells.size) = some k

/-- 'out = append(out, x)': the element has been laid in a block of its own first. -/
theorem own_appendV {ops : Array Oper} {rest : List Oper} {o : Oper} {a : Act} {Q : Exit → Act → World → Prop} {wr : World} {T TS T' : TypeId} {k b : Nat} {v : Value} {xs : List Value} {B n : Nat} {cs : Array Value} {H : Nat} (s x : Operand) (hH : wr.heap.size = H) (hT : RowT T k b) (hTS : Try.prog.underlying TS = some (.slice T)) (hown : OwnV T k wr B v n xs) (hl : n ≤ 1048576) (hB : B ≤ wr.heap.size) (hk0 : 0 < k) (hb : b ≤ 1024)
    (hcs : cs.size = k) (hone : ∀ u ∈ cs.toList, u.oneCell' = true)
    (hgd : o.guard = none) (ho : o.op = .call { callee := .builtin .append, args := #[s, x], argTypes := #[TS, TS] }) (hs : a.eval s = v)
    (hx : a.eval x = .slice (some ⟨H, 0, none⟩) 1 1)
    (h : ∀ v' w', OwnV T k w' B v' (n + 1) (xs ++ cs.toList) → wr.grownBy w' v.ownBlock → (v'.ownBlock = v.ownBlock ∨ v'.ownBlock = some (wr.heap.size + 1)) → wpList Try.prog ops Q rest (a.put o.dst v') w') :
    wpList Try.prog ops Q (o :: rest) a (wr.alloc (.cells cs T')) := by
  subst hH
  obtain ⟨i0, hi, hz1, hz2⟩ : ∃ i, Try.prog.info? T = some i ∧ i.size = k ∧ i.bytes = b := by
    have := hT.1
    cases hh : Try.prog.info? T with
    | none => rw [hh] at this; cases this
    | some i => rw [hh] at this; simp at this; exact ⟨i, rfl, this⟩
  obtain ⟨z, hz0, hzc⟩ : ∃ z, i0.zero = some z ∧ z.cells.size = k := by
    have := hT.2
    rw [hi] at this
    cases hh : i0.zero with
    | none => simp [hh] at this
    | some z => simp [hh] at this; exact ⟨z, rfl, this⟩
  refine wpList_append_own_at _ hgd s x TS ho B T i0 z k b hTS hi hz0 hz1 hz2 hzc (by omega) v n xs hs (World.ownsRow.alloc hown _) ⟨wr.heap.size, 0, none⟩ 1 1 cs.toList hx (by simp [hcs]) ?_ hone ?_ ?_ ?_ ?_
  · intro j u hj
    have hadd : (⟨wr.heap.size, 0, none⟩ : Addr).add j = ⟨wr.heap.size, j, none⟩ := by unfold Addr.add; split <;> simp_all
    rw [hadd, cell_of_row _ wr.heap.size j cs T' (0, 0) (heap_alloc_new wr _)]
    simpa using hj
  · unfold maxLen; omega
  · have : (n + 1) * b ≤ 1048577 * 1024 := Nat.mul_le_mul (by omega) hb
    omega
  · simp; omega
  · intro v' w' h1 h2 _ h3
    refine h v' w' h1 ?_ (by simpa using h3)
    refine ⟨h2.os, h2.tape, h2.output, ?_, fun c hc hne => ?_⟩
    · have := h2.size; simp at this; omega
    · rw [h2.block c (by simp; omega) hne]; exact Below.heap_alloc wr _ c hc
end Go.Proofs.Ytkdmfjnaajedhaa
