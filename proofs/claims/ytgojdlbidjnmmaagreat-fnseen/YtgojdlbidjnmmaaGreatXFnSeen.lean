import Derived.Laws.BitsAllLaws
import Derived.Test.YtgojdlbidjnmmaaGreatPk13
namespace Go.Proofs.YtgojdlbidjnmmaaGreat
set_option linter.unusedSimpArgs false
set_option linter.unusedVariables false
theorem lineLR_no {l : List Int} {mt : Nat → Nat} {base f t : Int} (h : ¬ (okT l base = true ∧ 0 ≤ f ∧ f ≤ t ∧ t ≤ l.length)) : lineLR l mt base f t = [] := if_neg h
theorem lineLR_yes {l : List Int} {mt : Nat → Nat} {base f t : Int} (h : okT l base = true ∧ 0 ≤ f ∧ f ≤ t ∧ t ≤ l.length) : lineLR l mt base f t = lineLv l mt base f.toNat t.toNat := if_pos h
theorem drop_take_fn {l : List Int} {f m j : Nat} (h : j < m) (hl : f + m ≤ l.length) : fn ((l.drop f).take m) j = fn l (f + j) := by
  simp [fn, h, show f + j < l.length by omega, show j < l.length - f by omega]

theorem lineLR_le (l : List Int) (mt : Nat → Nat) (base f t : Int) : (lineLR l mt base f t).length ≤ l.length := by
  unfold lineLR; split
  · rename_i h
    unfold lineLv; rw [llF_len]; omega
  · simp
end Go.Proofs.YtgojdlbidjnmmaaGreat
namespace Go.Proofs.YtgojdlbidjnmmaaGreat
set_option linter.unusedSimpArgs false

/-- Where the stretch of a place begins. -/
def stA (q : Nat → Bool) : Nat → Nat
  | 0 => 0
  | x + 1 => if q x = true then stA q x else x + 1
/-- Where it ends. -/
def enA (q : Nat → Bool) : Nat → Nat → Nat
  | 0, x => x
  | f + 1, x => if q x = true then enA q f (x + 1) else x
theorem stA_is {q : Nat → Bool} {s x : Nat} (hs : s ≤ x) (hin : ∀ y, s ≤ y → y < x → q y = true) (hb : s = 0 ∨ q (s - 1) = false) : stA q x = s := by
  induction x with
  | zero => simp [stA]; omega
  | succ x ih =>
    simp only [stA]
    by_cases e : s = x + 1
    · subst e
      rcases hb with hb | hb
      · omega
      · rw [Nat.add_sub_cancel] at hb; rw [hb]; simp
    · rw [if_pos (hin x (by omega) (by omega))]; exact ih (by omega) (fun y a b => hin y a (by omega))
theorem enA_is {q : Nat → Bool} {n e x : Nat} (hx : x ≤ e) (he : e ≤ n) (hin : ∀ y, x ≤ y → y < e → q y = true) (hb : e = n ∨ q e = false) : enA q (n - x) x = e := by
  obtain ⟨d, hd⟩ : ∃ d, e - x = d := ⟨_, rfl⟩
  induction d generalizing x with
  | zero =>
    have : x = e := by omega
    subst this
    rcases hb with hb | hb
    · rw [show n - x = 0 by omega]; rfl
    · by_cases h0 : n - x = 0
      · rw [h0]; rfl
      · obtain ⟨f, hf⟩ : ∃ f, n - x = f + 1 := ⟨n - x - 1, by omega⟩
        rw [hf]; simp [enA, hb]
  | succ d ih =>
    obtain ⟨f, hf⟩ : ∃ f, n - x = f + 1 := ⟨n - x - 1, by omega⟩
    rw [hf]
    simp only [enA]
    rw [if_pos (hin x (Nat.le_refl _) (by omega)), show f = n - (x + 1) by omega]
    exact ih (by omega) (fun y a b => hin y (by omega) b) (by omega)

/-- What stands at a place when each stretch is turned round. -/
def turnAt (q : Nat → Bool) (l : List Int) (x : Nat) : Int :=
  if q x = true then fn l (stA q x + enA q (l.length - x) x - 1 - x) else fn l x
def turned (q : Nat → Bool) (l : List Int) : List Int := (List.range l.length).map (turnAt q l)
theorem turned_len (q : Nat → Bool) (l : List Int) : (turned q l).length = l.length := by simp [turned]
theorem fn_turned {q : Nat → Bool} {l : List Int} {x : Nat} (h : x < l.length) : fn (turned q l) x = turnAt q l x := by simp [fn, turned, h]
theorem turn_in {q : Nat → Bool} {l : List Int} {s e x : Nat} (hs : s ≤ x) (he : x < e) (hn : e ≤ l.length) (hin : ∀ y, s ≤ y → y < e → q y = true) (hb : s = 0 ∨ q (s - 1) = false) (hb2 : e = l.length ∨ q e = false) :
    turnAt q l x = fn l (s + e - 1 - x) := by
  unfold turnAt
  rw [if_pos (hin x hs he), stA_is hs (fun y a b => hin y a (by omega)) hb, enA_is (by omega) hn (fun y a b => hin y (by omega) b) hb2]
theorem turn_out {q : Nat → Bool} {l : List Int} {x : Nat} (h : q x = false) : turnAt q l x = fn l x := by simp [turnAt, h]
theorem stA_le (q : Nat → Bool) (x : Nat) : stA q x ≤ x := by
  induction x with
  | zero => simp [stA]
  | succ x ih => simp only [stA]; split <;> omega
theorem enA_bounds (q : Nat → Bool) (f x : Nat) : x ≤ enA q f x ∧ enA q f x ≤ x + f := by
  induction f generalizing x with
  | zero => simp [enA]
  | succ f ih => simp only [enA]; split
                 · have := ih (x + 1); omega
                 · omega
theorem turn_mem {q : Nat → Bool} {l : List Int} {x : Nat} (hx : x < l.length) : ∃ y, y < l.length ∧ turnAt q l x = fn l y := by
  unfold turnAt
  split
  · rename_i hq
    refine ⟨_, ?_, rfl⟩
    have h1 := stA_le q x
    have h2 := enA_bounds q (l.length - x) x
    have h3 : x < enA q (l.length - x) x := by
      obtain ⟨f, hf⟩ : ∃ f, l.length - x = f + 1 := ⟨l.length - x - 1, by omega⟩
      rw [hf]; simp only [enA]; rw [if_pos hq]; have := (enA_bounds q f (x + 1)).1; omega
    omega
  · exact ⟨x, hx, rfl⟩

/-- Part of a row, the other way round. -/
def revAt (l : List Int) (i m k x : Nat) : Int := if (i ≤ x ∧ x < i + k) ∨ (i + m - k ≤ x ∧ x < i + m) then fn l (2 * i + m - 1 - x) else fn l x
end Go.Proofs.YtgojdlbidjnmmaaGreat
namespace Go.Proofs.YtgojdlbidjnmmaaGreat
open Go.ChangeShapes Go.WideShapes Go.ChangeAt Go.RowKit
set_option linter.unusedSimpArgs false

/-- Whether what stands at a place of the order is of such a level. -/
def atLeast (lv o : List Int) (least : Int) (x : Nat) : Bool := decide (least ≤ fn lv (fn o x).toNat)
theorem atLeast_yes {lv o : List Int} {least : Int} {x : Nat} (h : atLeast lv o least x = true) : least ≤ fn lv (fn o x).toNat := by simpa [atLeast] using h
theorem atLeast_no {lv o : List Int} {least : Int} {x : Nat} (h : atLeast lv o least x = false) : ¬ least ≤ fn lv (fn o x).toNat := by simpa [atLeast] using h

set_option maxHeartbeats 8000000 in
theorem specTurn_row (b off cap n bl ofl cpl nl : Nat) (o lv : List Int) (least : Int) (w : World) (hn : o.length = n) (hnl : lv.length = nl) (hl : n ≤ 1048576) (hb : b < w.heap.size) (hat : At w b off o) (hbl : bl < w.heap.size) (hatl : At w bl ofl lv) (hin : Hid (∀ x, x < n → 0 ≤ fn o x ∧ fn o x < (nl : Int))) :
    Calls Tryz.prog 89 #[.slice (some ⟨b, off, none⟩) n cap, .slice (some ⟨bl, ofl, none⟩) nl cpl, .int .i64 least] w fun e w' => (∃ v, e = .returned v ∧ OwnI w' w.heap.size v (turned (atLeast lv o least) o)) ∧ Below w.heap.size w w' := by
  obtain ⟨q, hq⟩ : ∃ q, atLeast lv o least = q := ⟨_, rfl⟩
  have HQ : Hid _ := hq
  clear hq
  go_enter Tryz.func89, Tryz.ntmps89
  go_wp2
  go_loopw [7, 8] (fun v i wr => ∃ (k : Nat) (O : List Int), k ≤ n ∧ i = .int .i64 k ∧ OwnI wr w.heap.size v O ∧ O.length = k ∧ Hid ((∀ x, x < k → fn O x = turnAt q o x) ∧ (k = 0 ∨ q (k - 1) = false ∨ k = n ∨ q k = false)) ∧ Below w.heap.size w wr) (fun _ i _ => n - (intOf i).toNat)
  case atStart => exact ⟨0, [], Nat.zero_le _, rfl, own_empty _ _ _ (Nat.le_refl _) rfl, rfl, ⟨fun x hx => by omega, .inl rfl⟩, by go_grown⟩
  case round =>
    obtain ⟨i, O, hi, rfl, hown, hOl, hinv, hbel⟩ := hrel
    by_cases hlt : i < n
    · go_wp2
      go_loop [9] (fun a => ∃ k : Nat, i ≤ k ∧ k ≤ n ∧ a = .int .i64 k ∧ Hid (∀ y, i ≤ y → y < k → q y = true)) (fun a => n - (intOf a).toNat)
      case atStart => exact ⟨i, Nat.le_refl _, by omega, rfl, fun y a b => by omega⟩
      case round =>
        obtain ⟨k, hk1, hk2, rfl, hkq⟩ := hrel
        by_cases hkn : k < n
        · have hc1 : wr.cell? ⟨b, off + k, none⟩ = some (.int .i64 (fn o k)) := (hat.below hbel hb) k (by omega)
          obtain ⟨y, hy⟩ : ∃ y : Nat, fn o k = (y : Int) := ⟨(fn o k).toNat, by have := (hin.out k hkn).1; omega⟩
          have hyn : y < nl := by have := (hin.out k hkn).2; omega
          have hc2 : wr.cell? ⟨bl, ofl + y, none⟩ = some (.int .i64 (fn lv y)) := (hatl.below hbel hbl) y (by omega)
          have HL : Hid (q k = decide (least ≤ fn lv y)) := by
            show q k = decide (least ≤ fn lv y)
            rw [← HQ.out]; unfold atLeast; rw [hy]; simp
          rw [hy] at hc1
          have hyi : (y : Int) < (nl : Int) := by omega
          clear hy
          by_cases hle : least ≤ fn lv y
          · go_wp2_with fail
            go_round
            case rel =>
              refine ⟨k + 1, by omega, by omega, by go_num, fun z a c => ?_⟩
              by_cases e : z = k
              · subst e; rw [HL.out]; simpa using hle
              · exact hkq.out z a (by omega)
            case measure => simp only [intOf]; omega
          · have HN : Hid (q k = false) := by show q k = false; rw [HL.out]; simpa using hle
            have hbk : Hid (k = n ∨ q k = false) := .inr HN.out
            go_wp2_with fail
            go_loopw [7, 10] (fun v a wr2 => ∃ (c : Nat) (O2 : List Int), c ≤ k - i ∧ a = .int .i64 ((k : Int) - 1 - (c : Int)) ∧ OwnI wr2 w.heap.size v O2 ∧ O2.length = i + c ∧ Hid (∀ x, x < i + c → fn O2 x = turnAt q o x) ∧ Below w.heap.size w wr2) (fun _ a _ => (intOf a - i + 1).toNat)
            case atStart => exact ⟨0, O, Nat.zero_le _, by go_num, hown, by omega, fun x hx => hinv.out.1 x (by omega), hbel⟩
            case round =>
              obtain ⟨c, O2, hc, rfl, hown2, hO2, hinv2, hbel2⟩ := hrel
              have hsz2 := hbel2.size
              by_cases hck : c < k - i
              · obtain ⟨y, hy⟩ : ∃ y, y = k - 1 - c := ⟨_, rfl⟩
                have hyi : (k : Int) - 1 - (c : Int) = (y : Int) := by omega
                rw [hyi]
                have hcy : wr.cell? ⟨b, off + y, none⟩ = some (.int .i64 (fn o y)) := (hat.below hbel2 hb) y (by omega)
                have hyn : (y : Int) < (n : Int) := by omega
                have hiy : (i : Int) ≤ (y : Int) := by omega
                have HT : Hid (turnAt q o (i + c) = fn o y) := by
                  show turnAt q o (i + c) = fn o y
                  have hst : i = 0 ∨ q (i - 1) = false := by
                    rcases hinv.out.2 with h | h | h | h
                    · exact .inl h
                    · exact .inr h
                    · omega
                    · have := hkq.out i (Nat.le_refl _) (by omega); rw [h] at this; cases this
                  rw [turn_in (s := i) (e := k) (by omega) (by omega) (by omega) hkq.out hst (by rw [hn]; exact hbk.out)]
                  congr 1; omega
                have HY : Hid _ := hy
                clear hy hyi
                go_wp2_with (at_builtin; refine own_append (.tmp 41) (.tmp 46) hown2 (by omega) hsz2 rfl rfl rfl rfl ?_; intro v' w5 hown5 hgr5)
                go_roundw
                case rel =>
                  refine ⟨c + 1, O2 ++ [fn o y], by omega, by have := HY.out; go_num, hown5, by simp; omega, fun x hx => ?_, grown_below hbel2 hgr5 hown2 (Nat.le_refl _) hsz2⟩
                  by_cases e : x = i + c
                  · subst e; rw [← hO2]; rw [show fn (O2 ++ [fn o y]) O2.length = fn o y by simp [fn]]; rw [hO2]; exact HT.out.symm
                  · rw [fn_append_left (by omega)]; exact hinv2.out x (by omega)
                case measure => have := HY.out; simp only [intOf]; omega
              · have ec : c = k - i := by omega
                have hge : ¬ (i : Int) ≤ (k : Int) - 1 - (c : Int) := by omega
                by_cases hki : k = i
                · subst hki
                  have hci : wr.cell? ⟨b, off + k, none⟩ = some (.int .i64 (fn o k)) := (hat.below hbel2 hb) k (by omega)
                  have hki2 : (k : Int) < (n : Int) := by omega
                  have HT : Hid (turnAt q o k = fn o k) := turn_out (hbk.out.resolve_left (by omega))
                  go_wp2_with (at_builtin; refine own_append (.tmp 51) (.tmp 56) hown2 (by omega) hsz2 rfl rfl rfl rfl ?_; intro v' w5 hown5 hgr5)
                  go_roundw
                  case rel =>
                    refine ⟨k + 1, O2 ++ [fn o k], by omega, by go_num, hown5, by simp; omega, ⟨fun x hx => ?_, ?_⟩, grown_below hbel2 hgr5 hown2 (Nat.le_refl _) hsz2⟩
                    · by_cases e : x = k
                      · subst e
                        have hO3 : O2.length = x := by omega
                        rw [← hO3]; rw [show fn (O2 ++ [fn o O2.length]) O2.length = fn o O2.length by simp [fn]]; rw [hO3]; exact HT.out.symm
                      · rw [fn_append_left (by omega)]; exact hinv2.out x (by omega)
                    · right; left; rw [Nat.add_sub_cancel]; rcases hbk.out with h | h
                      · omega
                      · exact h
                  case measure => simp only [intOf]; omega
                · have hkb : ((k : Int) == (i : Int)) = false := by simp; omega
                  go_wp2_with fail
                  go_roundw
                  case rel =>
                    refine ⟨k, O2, by omega, rfl, hown2, by omega, ⟨fun x hx => hinv2.out x (by omega), ?_⟩, hbel2⟩
                    right; right; exact hbk.out
                  case measure => simp only [intOf]; omega
        · have hbk : Hid (k = n ∨ q k = false) := .inl (by omega)
          go_wp2_with fail
          go_loopw [7, 10] (fun v a wr2 => ∃ (c : Nat) (O2 : List Int), c ≤ k - i ∧ a = .int .i64 ((k : Int) - 1 - (c : Int)) ∧ OwnI wr2 w.heap.size v O2 ∧ O2.length = i + c ∧ Hid (∀ x, x < i + c → fn O2 x = turnAt q o x) ∧ Below w.heap.size w wr2) (fun _ a _ => (intOf a - i + 1).toNat)
          case atStart => exact ⟨0, O, Nat.zero_le _, by go_num, hown, by omega, fun x hx => hinv.out.1 x (by omega), hbel⟩
          case round =>
            obtain ⟨c, O2, hc, rfl, hown2, hO2, hinv2, hbel2⟩ := hrel
            have hsz2 := hbel2.size
            by_cases hck : c < k - i
            · obtain ⟨y, hy⟩ : ∃ y, y = k - 1 - c := ⟨_, rfl⟩
              have hyi : (k : Int) - 1 - (c : Int) = (y : Int) := by omega
              rw [hyi]
              have hcy : wr.cell? ⟨b, off + y, none⟩ = some (.int .i64 (fn o y)) := (hat.below hbel2 hb) y (by omega)
              have hyn : (y : Int) < (n : Int) := by omega
              have hiy : (i : Int) ≤ (y : Int) := by omega
              have HT : Hid (turnAt q o (i + c) = fn o y) := by
                show turnAt q o (i + c) = fn o y
                have hst : i = 0 ∨ q (i - 1) = false := by
                  rcases hinv.out.2 with h | h | h | h
                  · exact .inl h
                  · exact .inr h
                  · omega
                  · have := hkq.out i (Nat.le_refl _) (by omega); rw [h] at this; cases this
                rw [turn_in (s := i) (e := k) (by omega) (by omega) (by omega) hkq.out hst (by rw [hn]; exact hbk.out)]
                congr 1; omega
              have HY : Hid _ := hy
              clear hy hyi
              go_wp2_with (at_builtin; refine own_append (.tmp 41) (.tmp 46) hown2 (by omega) hsz2 rfl rfl rfl rfl ?_; intro v' w5 hown5 hgr5)
              go_roundw
              case rel =>
                refine ⟨c + 1, O2 ++ [fn o y], by omega, by have := HY.out; go_num, hown5, by simp; omega, fun x hx => ?_, grown_below hbel2 hgr5 hown2 (Nat.le_refl _) hsz2⟩
                by_cases e : x = i + c
                · subst e; rw [← hO2]; rw [show fn (O2 ++ [fn o y]) O2.length = fn o y by simp [fn]]; rw [hO2]; exact HT.out.symm
                · rw [fn_append_left (by omega)]; exact hinv2.out x (by omega)
              case measure => have := HY.out; simp only [intOf]; omega
            · have ec : c = k - i := by omega
              have hge : ¬ (i : Int) ≤ (k : Int) - 1 - (c : Int) := by omega
              by_cases hki : k = i
              · exfalso; omega
              · have hkb : ((k : Int) == (i : Int)) = false := by simp; omega
                go_wp2_with fail
                go_roundw
                case rel =>
                  refine ⟨k, O2, by omega, rfl, hown2, by omega, ⟨fun x hx => hinv2.out x (by omega), ?_⟩, hbel2⟩
                  right; right; exact hbk.out
                case measure => simp only [intOf]; omega
    · have e : i = n := by omega
      subst e
      go_wp2_with fail
      go_ret
      have el : O = turned q o := ext_fn (by rw [turned_len]; omega) (fun x hx => by rw [fn_turned (by omega)]; exact hinv.out.1 x (by omega))
      rw [el, ← HQ.out] at hown
      exact ⟨⟨_, rfl, hown⟩, hbel⟩
end Go.Proofs.YtgojdlbidjnmmaaGreat
namespace Go.Proofs.YtgojdlbidjnmmaaGreat
open Go.ChangeShapes Go.WideShapes Go.ChangeAt Go.RowKit
set_option linter.unusedSimpArgs false

def lvl (r : Int) : Bool := decide (-1 ≤ r ∧ r ≤ 22)
def allV (p : Nat → Bool) : Nat → Bool
  | 0 => true
  | k + 1 => allV p k && p k
theorem allV_iff (p : Nat → Bool) (n : Nat) : allV p n = true ↔ ∀ j, j < n → p j = true := by
  induction n with
  | zero => simp [allV]
  | succ n ih =>
    simp only [allV, Bool.and_eq_true, ih]
    constructor
    · intro h j hj
      by_cases e : j = n
      · subst e; exact h.2
      · exact h.1 j (by omega)
    · intro h; exact ⟨fun j hj => h j (by omega), h n (by omega)⟩
theorem allV_false {p : Nat → Bool} {n k : Nat} (hk : k < n) (h : p k = false) : allV p n = false := by
  rw [Bool.eq_false_iff]; intro a; rw [allV_iff] at a; have := a k hk; rw [h] at this; cases this

def lvF (z : Nat → Int) (len : Nat) : Bool := decide (len ≤ 80) && allV (fun j => lvl (z j)) len
def inV (n lo hi : Int) : Bool := decide (lo ≤ n ∧ n ≤ hi)
set_option maxHeartbeats 1000000 in
theorem specInV (n lo hi : Int) (w : World) : Calls Tryz.prog 29 #[.int .i64 n, .int .i64 lo, .int .i64 hi] w fun e w' => e = .returned (.bool (inV n lo hi)) ∧ w' = w := by
  go_enter Tryz.func29, Tryz.ntmps29
  go_wp2
  all_goals (go_ret; refine ⟨retBool ?_, rfl⟩)
  all_goals (simp [inV])
  all_goals omega

theorem lvF_all {z : Nat → Int} {n : Nat} (h : ∀ j, j < n → lvl (z j) = true) : lvF z n = decide (n ≤ 80) := by
  have : allV (fun j => lvl (z j)) n = true := (allV_iff _ _).2 h
  simp [lvF, this]
theorem lvF_no {z : Nat → Int} {n k : Nat} (hk : k < n) (h : lvl (z k) = false) : lvF z n = false := by
  simp [lvF, allV_false (p := fun j => lvl (z j)) hk h]
theorem lvF_long {z : Nat → Int} {n : Nat} (h : 80 < n) : lvF z n = false := by
  simp [lvF]; omega
theorem lvF_len {z : Nat → Int} {n : Nat} (h : lvF z n = true) : n ≤ 80 := by
  simp [lvF] at h; omega
theorem lvF_get {z : Nat → Int} {n : Nat} (h : lvF z n = true) {j : Nat} (hj : j < n) : lvl (z j) = true := by
  simp only [lvF, Bool.and_eq_true] at h; exact (allV_iff _ _).1 h.2 j hj

set_option maxHeartbeats 1000000 in
theorem implLv (v : Value) (l : List Int) (w : World) (hv : Arg w v l) (hl : l.length ≤ 4194304) :
    Calls Tryz.prog 52 #[v] w fun e w' => e = .returned (.bool (lvF (fn l) l.length)) ∧ w' = w := by
  rcases hv with ⟨a0, c0, rfl, rfl⟩ | ⟨b, off, cap, rfl, hb, hlc, hcm, hat⟩
  · go_enter Tryz.func52, Tryz.ntmps52
    go_wp2
    go_rounds 1
    go_ret
    exact ⟨rfl, rfl⟩
  · obtain ⟨n, hn⟩ : ∃ n, l.length = n := ⟨_, rfl⟩
    rw [hn] at hl ⊢
    by_cases h80 : 80 < n
    · go_enter Tryz.func52, Tryz.ntmps52
      go_wp2
      go_ret
      exact ⟨retBool (lvF_long h80).symm, rfl⟩
    · go_enter Tryz.func52, Tryz.ntmps52
      go_wp2
      go_loop [10] (fun i => ∃ k : Nat, k ≤ n ∧ i = .int .i64 k ∧ Hid (∀ j, j < k → lvl (fn l j) = true)) (fun i => n - (intOf i).toNat)
      case atStart => exact ⟨0, Nat.zero_le _, rfl, fun j hj => by omega⟩
      case round =>
        obtain ⟨k, hk, rfl, hok⟩ := hrel
        by_cases hlt : k < n
        · have hcell : w.cell? ⟨b, off + k, none⟩ = some (.int .i64 (fn l k)) := hat k (by omega)
          go_wp2
          all_goals first
            | (go_ret; exact ⟨retBool (lvF_no hlt (by simp only [lvl, decide_eq_false_iff_not]; omega)).symm, rfl⟩)
            | (refine ⟨⟨k + 1, by omega, by go_num, fun j hj => ?_⟩, by simp only [intOf]; omega⟩
               by_cases ej : j = k
               · subst ej; simp only [lvl, decide_eq_true_eq]; omega
               · exact hok.out j (by omega))
        · have e : k = n := by omega
          subst e
          go_wp2
          go_ret
          refine ⟨retBool ?_, rfl⟩
          rw [lvF_all hok.out]
          simp; omega
end Go.Proofs.YtgojdlbidjnmmaaGreat
namespace Go.Proofs.YtgojdlbidjnmmaaGreat
open Go.ChangeShapes Go.WideShapes Go.ChangeAt Go.RowKit
set_option linter.unusedSimpArgs false

def ord0 (z : Nat → Int) : Nat → List Int
  | 0 => []
  | k + 1 => if 0 ≤ z k then ord0 z k ++ [(k : Int)] else ord0 z k
def mostF (z : Nat → Int) : Nat → Int
  | 0 => 0
  | k + 1 => if mostF z k < z k then z k else mostF z k
def ordN (lv : List Int) : Nat → List Int → List Int
  | 0, o => o
  | m + 1, o => ordN lv m (turned (atLeast lv o ((m : Int) + 1)) o)
def orderL (lv : List Int) : List Int := ordN lv (mostF (fn lv) lv.length).toNat (ord0 (fn lv) lv.length)
/-- The places of an order lie below n. -/
def InnO (n : Nat) (o : List Int) : Prop := ∀ x, x < o.length → 0 ≤ fn o x ∧ fn o x < (n : Int)
theorem ord0_len (z : Nat → Int) (k : Nat) : (ord0 z k).length ≤ k := by
  induction k with
  | zero => simp [ord0]
  | succ k ih => simp only [ord0]; split
                 · simp; omega
                 · omega
theorem inn_snoc {n : Nat} {o : List Int} (h : InnO n o) {x : Int} (h0 : 0 ≤ x) (h1 : x < (n : Int)) : InnO n (o ++ [x]) := by
  intro y hy
  simp at hy
  by_cases e : y = o.length
  · subst e; rw [show fn (o ++ [x]) o.length = x by simp [fn]]; exact ⟨h0, h1⟩
  · rw [fn_append_left (by omega)]; exact h y (by omega)
theorem ord0_inn (z : Nat → Int) (k n : Nat) (h : k ≤ n) : InnO n (ord0 z k) := by
  induction k with
  | zero => intro x hx; simp [ord0] at hx
  | succ k ih =>
    simp only [ord0]; split
    · exact inn_snoc (ih (by omega)) (by omega) (by omega)
    · exact ih (by omega)
theorem inn_turned {n : Nat} {o : List Int} (h : InnO n o) (q : Nat → Bool) : InnO n (turned q o) := by
  intro x hx
  rw [turned_len] at hx
  rw [fn_turned hx]
  obtain ⟨y, h1, h2⟩ := turn_mem (q := q) hx
  rw [h2]; exact h y h1
theorem ordN_len (lv : List Int) (m : Nat) (o : List Int) : (ordN lv m o).length = o.length := by
  induction m generalizing o with
  | zero => rfl
  | succ m ih => simp only [ordN]; rw [ih, turned_len]
theorem mostF_bounds {z : Nat → Int} {n : Nat} (h : ∀ j, j < n → z j ≤ 22) (k : Nat) (hk : k ≤ n) : 0 ≤ mostF z k ∧ mostF z k ≤ 22 := by
  induction k with
  | zero => simp [mostF]
  | succ k ih => have := ih (by omega); have := h k (by omega); simp only [mostF]; split <;> omega
theorem turned_nil (q : Nat → Bool) : turned q [] = [] := rfl

set_option maxHeartbeats 1000000 in
theorem specTurn_any (v : Value) (bl ofl cpl nl : Nat) (o lv : List Int) (least : Int) (w : World) (hv : Arg w v o) (hnl : lv.length = nl) (hl : o.length ≤ 1048576) (hbl : bl < w.heap.size) (hatl : At w bl ofl lv) (hin : Hid (InnO nl o)) :
    Calls Tryz.prog 89 #[v, .slice (some ⟨bl, ofl, none⟩) nl cpl, .int .i64 least] w fun e w' => (∃ v, e = .returned v ∧ OwnI w' w.heap.size v (turned (atLeast lv o least) o)) ∧ Below w.heap.size w w' := by
  rcases hv with ⟨a0, c0, rfl, rfl⟩ | ⟨b, off, cap, rfl, hb, hlc, hcm, hat⟩
  · go_enter Tryz.func89, Tryz.ntmps89
    go_wp2
    go_rounds 1
    go_ret
    exact ⟨⟨_, rfl, own_empty _ _ _ (Nat.le_refl _) rfl⟩, by go_grown⟩
  · exact specTurn_row b off cap o.length bl ofl cpl nl o lv least w rfl hnl hl hb hat hbl hatl hin

set_option maxHeartbeats 4000000 in
theorem specOrder_any (v : Value) (lv : List Int) (w : World) (hv : Arg w v lv) (hl : lv.length ≤ 1048576) (hb22 : Hid (∀ j, j < lv.length → fn lv j ≤ 22)) :
    Calls Tryz.prog 50 #[v] w fun e w' => (∃ v', e = .returned v' ∧ OwnI w' w.heap.size v' (orderL lv)) ∧ Below w.heap.size w w' := by
  rcases hv with ⟨a0, c0, rfl, rfl⟩ | ⟨b, off, cap, rfl, hb, hlc, hcm, hat⟩
  · go_enter Tryz.func50, Tryz.ntmps50
    go_wp2
    go_rounds 1
    go_rounds 1
    go_ret
    exact ⟨⟨_, rfl, own_empty _ _ _ (Nat.le_refl _) rfl⟩, by go_grown⟩
  · obtain ⟨n, hn⟩ : ∃ n, lv.length = n := ⟨_, rfl⟩
    have HF : Hid (orderL lv = ordN lv (mostF (fn lv) n).toNat (ord0 (fn lv) n)) := by show orderL lv = _; unfold orderL; rw [hn]
    rw [hn] at hl hb22 ⊢
    go_enter Tryz.func50, Tryz.ntmps50
    go_wp2
    go_loopw [3, 4, 5] (fun q ms i wr => ∃ (k : Nat) (mm : Int), k ≤ n ∧ i = .int .i64 k ∧ ms = .int .i64 mm ∧ Hid (mm = mostF (fn lv) k) ∧ OwnI wr w.heap.size q (ord0 (fn lv) k) ∧ Below w.heap.size w wr) (fun _ _ i _ => n - (intOf i).toNat)
    case atStart => exact ⟨0, 0, Nat.zero_le _, rfl, rfl, rfl, own_empty _ _ _ (Nat.le_refl _) rfl, by go_grown⟩
    case round =>
      obtain ⟨k, mm, hk, rfl, rfl, hmm, hown, hbel⟩ := hrel
      have hsz := hbel.size
      by_cases hlt : k < n
      · have hcell : wr.cell? ⟨b, off + k, none⟩ = some (.int .i64 (fn lv k)) := (hat.below hbel hb) k (by omega)
        have hle := ord0_len (fn lv) k
        by_cases h0 : 0 ≤ fn lv k
        · have HO : Hid (ord0 (fn lv) (k + 1) = ord0 (fn lv) k ++ [(k : Int)]) := by show ord0 _ _ = _; simp [ord0, h0]
          by_cases hg : mm < fn lv k
          · have HM : Hid (mostF (fn lv) (k + 1) = fn lv k) := by show mostF _ _ = _; have := hmm.out; simp only [mostF]; rw [if_pos (by omega)]
            go_wp2_with (at_builtin; refine own_append (.tmp 19) (.tmp 21) hown (by omega) hsz rfl rfl rfl rfl ?_; intro v' w5 hown5 hgr5; have hbel5 := grown_below hbel hgr5 hown (Nat.le_refl _) hsz; have hcell5 := (hat.below hbel5 hb) k (by omega))
            go_roundw
            case rel => exact ⟨k + 1, fn lv k, by omega, by go_num, rfl, HM.out.symm, by rw [HO.out]; exact hown5, hbel5⟩
            case measure => simp only [intOf]; omega
          · have HM : Hid (mostF (fn lv) (k + 1) = mm) := by show mostF _ _ = _; have := hmm.out; simp only [mostF]; rw [if_neg (by omega)]; omega
            go_wp2_with (at_builtin; refine own_append (.tmp 19) (.tmp 21) hown (by omega) hsz rfl rfl rfl rfl ?_; intro v' w5 hown5 hgr5; have hbel5 := grown_below hbel hgr5 hown (Nat.le_refl _) hsz; have hcell5 := (hat.below hbel5 hb) k (by omega))
            go_roundw
            case rel => exact ⟨k + 1, mm, by omega, by go_num, rfl, HM.out.symm, by rw [HO.out]; exact hown5, hbel5⟩
            case measure => simp only [intOf]; omega
        · have HO : Hid (ord0 (fn lv) (k + 1) = ord0 (fn lv) k) := by show ord0 _ _ = _; simp [ord0, h0]
          have hmb := mostF_bounds hb22.out k (by omega)
          rw [← hmm.out] at hmb
          have HM : Hid (mostF (fn lv) (k + 1) = mm) := by show mostF _ _ = _; have := hmm.out; simp only [mostF]; rw [if_neg (by omega)]; omega
          go_wp2_with fail
          go_roundw
          case rel => exact ⟨k + 1, mm, by omega, by go_num, rfl, HM.out.symm, by rw [HO.out]; exact hown, hbel⟩
          case measure => simp only [intOf]; omega
      · have e : k = n := by omega
        subst e
        have hmb := mostF_bounds hb22.out k (Nat.le_refl _)
        rw [← hmm.out] at hmb HF
        obtain ⟨M, hM⟩ : ∃ M : Nat, mm = (M : Int) := ⟨mm.toNat, by omega⟩
        subst hM
        rw [Int.toNat_natCast] at HF
        have hoin := ord0_inn (fn lv) k k (Nat.le_refl _)
        have hole := ord0_len (fn lv) k
        have HOI : Hid _ := hoin
        clear hoin
        go_wp2_with fail
        go_loopw [3, 6] (fun q i wr => ∃ (m : Nat) (O : List Int), m ≤ 22 ∧ i = .int .i64 m ∧ OwnI wr w.heap.size q O ∧ O.length ≤ k ∧ Hid (InnO k O ∧ ordN lv m O = orderL lv) ∧ Below w.heap.size w wr) (fun _ i _ => (intOf i).toNat)
        case atStart => exact ⟨M, _, by omega, rfl, hown, hole, ⟨HOI.out, HF.out.symm⟩, hbel⟩
        case round =>
          obtain ⟨m, O, hm, rfl, hownO, hOl, hinv, hbelO⟩ := hrel
          by_cases hm0 : m = 0
          · subst hm0
            go_wp2_with fail
            go_ret
            exact ⟨⟨_, rfl, by rw [← hinv.out.2]; exact hownO⟩, hbelO⟩
          · obtain ⟨j, rfl⟩ : ∃ j, m = j + 1 := ⟨m - 1, by omega⟩
            go_wp2_with fail
            refine (specTurn_any _ b off cap k O lv _ _ hownO.arg hn (by omega) (Nat.lt_of_lt_of_le hb hbelO.size) (hat.below hbelO hb) hinv.out.1).mono ?_
            rintro e w6 ⟨⟨v6, rfl, o6⟩, b6⟩
            go_wp2_with fail
            go_roundw
            case rel =>
              refine ⟨j, _, by omega, by go_num, o6.mono hbelO.size, by rw [turned_len]; exact hOl, ⟨inn_turned hinv.out.1 _, ?_⟩, bstep hbelO b6⟩
              rw [← hinv.out.2]; rfl
            case measure => simp only [intOf]; omega
end Go.Proofs.YtgojdlbidjnmmaaGreat
namespace Go.Proofs.YtgojdlbidjnmmaaGreat
open Go.ChangeShapes Go.WideShapes Go.ChangeAt Go.RowKit
set_option linter.unusedSimpArgs false

theorem OwnI.drew {w : World} {v : Value} {l : List Int} {B : Nat} (h : OwnI w B v l) : OwnI w.drew B v l := h
theorem grown_setV {a w : World} {g : Nat} (h : a.grownBy w (some g)) (j : Nat) (x : Value) : a.grownBy (w.setCell ⟨g, j, none⟩ x) (some g) :=
  ⟨h.os, h.tape, h.output, by simpa using h.size, fun i hi hne => (heap_setCell_other w ⟨g, j, none⟩ i x (fun e => hne (by rw [e]))).trans (h.block i hi hne)⟩
theorem grown_drew {a w : World} {row : Option Nat} (h : a.grownBy w row) : a.grownBy w.drew row := ⟨h.os, h.tape, h.output, h.size, h.block⟩
theorem rev_step {L M : List Int} {i m k n x : Nat} (hM : ∀ x, x < n → fn M x = revAt L i m k x) (hn : M.length = n) (him : i + m ≤ n) (hk : k < m - 1 - k) (hm : 1 ≤ m) (hx : x < n) :
    fn ((M.set (i + k) (fn M (i + (m - 1 - k)))).set (i + (m - 1 - k)) (fn M (i + k))) x = revAt L i m (k + 1) x := by
  have e1 := hM (i + k) (by omega)
  have e2 := hM (i + (m - 1 - k)) (by omega)
  have r1 : revAt L i m k (i + k) = fn L (i + k) := by unfold revAt; rw [if_neg (by omega)]
  have r2 : revAt L i m k (i + (m - 1 - k)) = fn L (i + (m - 1 - k)) := by unfold revAt; rw [if_neg (by omega)]
  by_cases a : x = i + (m - 1 - k)
  · subst a
    rw [fn_set_same (by simp; omega), e1, r1]
    unfold revAt; rw [if_pos (by omega)]; congr 1; omega
  · rw [fn_set_other (by omega)]
    by_cases b : x = i + k
    · subst b
      rw [fn_set_same (by omega), e2, r2]
      unfold revAt; rw [if_pos (by omega)]; congr 1; omega
    · rw [fn_set_other (by omega), hM x hx]
      unfold revAt
      by_cases c : (i ≤ x ∧ x < i + k) ∨ (i + m - k ≤ x ∧ x < i + m)
      · rw [if_pos c, if_pos (by omega)]
      · rw [if_neg c, if_neg (by omega)]
theorem rev_end {L : List Int} {i m k x : Nat} (hk : ¬ (k : Int) < (m : Int) - 1 - k) (hk2 : 2 * k ≤ m) : revAt L i m k x = if i ≤ x ∧ x < i + m then fn L (2 * i + m - 1 - x) else fn L x := by
  unfold revAt
  by_cases c : i ≤ x ∧ x < i + m
  · rw [if_pos c]
    by_cases d : (i ≤ x ∧ x < i + k) ∨ (i + m - k ≤ x ∧ x < i + m)
    · rw [if_pos d]
    · rw [if_neg d]; congr 1; omega
  · rw [if_neg c, if_neg (by omega)]

set_option maxHeartbeats 4000000 in
theorem reverse_any (g i m n cp cq B : Nat) (L : List Int) (w : World) (h : OwnI w B (.slice (some ⟨g, 0, none⟩) n cp) L) (him : i + m ≤ n) (hn : n ≤ 1048576) :
    Calls Tryz.prog 132 #[.slice (some ⟨g, i, none⟩) m cq] w fun e w' => e = .returned (.tuple #[]) ∧ (∃ M, OwnI w' B (.slice (some ⟨g, 0, none⟩) n cp) M ∧ Hid (∀ x, x < n → fn M x = if i ≤ x ∧ x < i + m then fn L (2 * i + m - 1 - x) else fn L x)) ∧ w.grownBy w' (some g) ∧ w'.heap.size = w.heap.size := by
  go_enter Tryz.func132, Tryz.ntmps132
  go_wp2
  go_loopw [2, 3] (fun a b wr => ∃ (k : Nat) (M : List Int), 2 * k ≤ m ∧ a = .int .i64 k ∧ b = .int .i64 ((m : Int) - 1 - k) ∧ OwnI wr B (.slice (some ⟨g, 0, none⟩) n cp) M ∧ Hid (∀ x, x < n → fn M x = revAt L i m k x) ∧ w.grownBy wr (some g) ∧ Hid (wr.heap.size = w.heap.size)) (fun a _ _ => m - (intOf a).toNat)
  case atStart => exact ⟨0, L, by omega, rfl, by go_num, h, fun x _ => by unfold revAt; rw [if_neg (by omega)], ⟨rfl, rfl, rfl, Nat.le_refl _, fun _ _ _ => rfl⟩, rfl⟩
  case round =>
    obtain ⟨k, M, hk, rfl, rfl, hown, hM, hgr, hsz⟩ := hrel
    by_cases hlt : (k : Int) < (m : Int) - 1 - k
    · obtain ⟨j, hj⟩ : ∃ j, j = m - 1 - k := ⟨_, rfl⟩
      have hji : (m : Int) - 1 - k = (j : Int) := by omega
      rw [hji]
      rw [hji] at hlt
      have f1 : wr.frozen? ⟨g, i + k, none⟩ = false := hown.frozenN _
      have f2 : wr.frozen? ⟨g, i + j, none⟩ = false := hown.frozenN _
      have c1 : wr.cell? ⟨g, i + k, none⟩ = some (.int .i64 (fn M (i + k))) := hown.cellN _ (by omega)
      have c2 : wr.cell? ⟨g, i + j, none⟩ = some (.int .i64 (fn M (i + j))) := hown.cellN _ (by omega)
      have hkm : (k : Int) < (m : Int) := by omega
      have hjm : (j : Int) < (m : Int) := by omega
      have HJ : Hid _ := hj
      clear hj hji
      go_wp2
      go_region
      go_wp2
      go_roundw
      case rel =>
        have hl := hown.len
        refine ⟨k + 1, (M.set (i + k) (fn M (i + j))).set (i + j) (fn M (i + k)), by have := HJ.out; omega, by go_num, by have := HJ.out; go_num, ((hown.storedN (i + k) (fn M (i + j))).storedN (i + j) (fn M (i + k))).drew, fun x hx => ?_, grown_drew (grown_setV (grown_setV hgr _ _) _ _), ?_⟩
        · have e := HJ.out
          subst e
          exact rev_step hM.out hl him (by omega) (by omega) hx
        · show (World.drew _).heap.size = w.heap.size
          simp
          exact hsz.out
      case measure => simp only [intOf]; omega
    · go_wp2
      go_end0
      refine ⟨rfl, ⟨M, hown, fun x hx => ?_⟩, hgr, hsz.out⟩
      rw [hM.out x hx]; exact rev_end (by omega) hk
end Go.Proofs.YtgojdlbidjnmmaaGreat
namespace Go.Proofs.YtgojdlbidjnmmaaGreat
open Go.ChangeShapes Go.WideShapes Go.ChangeAt Go.RowKit
set_option linter.unusedSimpArgs false

theorem grown_cell {w w' : World} {g : Nat} (h : w.grownBy w' (some g)) {a : Addr} {v : Value} (hc : w.cell? a = some v) (hne : a.block ≠ g) : w'.cell? a = some v :=
  h.cell hc (by simpa using hne)
theorem At.grown {w w' : World} {g b off : Nat} {l : List Int} (h : At w b off l) (hg : w.grownBy w' (some g)) (hne : b ≠ g) : At w' b off l :=
  fun j hj => grown_cell hg (h j hj) hne
theorem grown_both {a b c : World} {row : Option Nat} (h : a.grownBy b row) (k : b.grownBy c row) : a.grownBy c row :=
  ⟨k.os.trans h.os, k.tape.trans h.tape, k.output.trans h.output, Nat.le_trans h.size k.size, fun i hi hne => (k.block i (Nat.lt_of_lt_of_le hi h.size) hne).trans (h.block i hi hne)⟩

set_option maxHeartbeats 1000000 in
theorem closure_any (X Y b off cap nl y : Nat) (x m : Int) (w : World) (hX : w.cell? ⟨X, 0, none⟩ = some (.slice (some ⟨b, off, none⟩) nl cap)) (hY : w.cell? ⟨Y, 0, none⟩ = some (.int .i64 m)) (hc : w.cell? ⟨b, off + y, none⟩ = some (.int .i64 x)) (hy : (y : Int) < (nl : Int)) :
    Calls Tryz.prog 83 #[.int .i64 (y : Int), .pointer (some ⟨X, 0, none⟩), .pointer (some ⟨Y, 0, none⟩)] w fun e w' => e = .returned (.bool (decide (m ≤ x))) ∧ ∃ n, w' = w.drewN n := by
  go_enter Tryz.func83, Tryz.ntmps83
  go_wp2
  go_quiet (fail)
  go_wp2
  go_ret
  exact ⟨rfl, _, rfl⟩

set_option maxHeartbeats 3000000 in
theorem implTurn_row (g n cp B X Y b off cap nl : Nat) (o lv : List Int) (m : Int) (w : World) (ho : OwnI w B (.slice (some ⟨g, 0, none⟩) n cp) o) (hX : w.cell? ⟨X, 0, none⟩ = some (.slice (some ⟨b, off, none⟩) nl cap)) (hY : w.cell? ⟨Y, 0, none⟩ = some (.int .i64 m)) (hXg : X ≠ g) (hYg : Y ≠ g) (hbg : b ≠ g) (hat : At w b off lv) (hnl : lv.length = nl) (hn : n ≤ 1048576) (hin : Hid (InnO nl o)) :
    Calls Tryz.prog 82 #[.slice (some ⟨g, 0, none⟩) n cp, .func (Fn.func 83) #[] #[.pointer (some ⟨X, 0, none⟩), .pointer (some ⟨Y, 0, none⟩)]] w fun e w' => e = .returned (.tuple #[]) ∧ OwnI w' B (.slice (some ⟨g, 0, none⟩) n cp) (turned (atLeast lv o m) o) ∧ w.grownBy w' (some g) ∧ w'.heap.size = w.heap.size := by
  obtain ⟨q, hq⟩ : ∃ q, atLeast lv o m = q := ⟨_, rfl⟩
  have HQ : Hid _ := hq
  clear hq
  have hol := ho.len
  have hncp : n ≤ cp := by
    rcases ho.forms with ⟨h, _⟩ | ⟨g', c', h, _, _, h2, _⟩
    · cases h
    · simp only [Value.slice.injEq] at h; omega
  have HOL : Hid _ := hol
  clear hol
  go_enter Tryz.func82, Tryz.ntmps82
  go_wp2_with fail
  go_loopw [4, 9] (fun fr i wr => ∃ (f k : Nat) (M : List Int), f ≤ k ∧ k ≤ n ∧ fr = .int .i64 f ∧ i = .int .i64 k ∧ OwnI wr B (.slice (some ⟨g, 0, none⟩) n cp) M ∧ Hid ((∀ x, x < f → fn M x = turnAt q o x) ∧ (∀ x, f ≤ x → x < n → fn M x = fn o x) ∧ (∀ y, f ≤ y → y < k → q y = true) ∧ (f = 0 ∨ q (f - 1) = false)) ∧ w.grownBy wr (some g) ∧ Hid (wr.heap.size = w.heap.size)) (fun _ i _ => n - (intOf i).toNat)
  case atStart => exact ⟨0, 0, o, Nat.le_refl _, Nat.zero_le _, rfl, rfl, ho, ⟨fun x hx => by omega, fun x _ _ => rfl, fun y _ _ => by omega, .inl rfl⟩, ⟨rfl, rfl, rfl, Nat.le_refl _, fun _ _ _ => rfl⟩, rfl⟩
  case round =>
    obtain ⟨f, k, M, hfk, hkn, rfl, rfl, hown, hinv, hgr, hsz⟩ := hrel
    by_cases hlt : k < n
    · have hko := hinv.out.2.1 k hfk hlt
      obtain ⟨y, hy⟩ : ∃ y : Nat, fn o k = (y : Int) := ⟨(fn o k).toNat, by have := (hin.out k (by rw [HOL.out]; exact hlt)).1; omega⟩
      have hyn : y < nl := by have := (hin.out k (by rw [HOL.out]; exact hlt)).2; omega
      have hc1 : wr.cell? ⟨g, k, none⟩ = some (.int .i64 (y : Int)) := by rw [hown.cellN k hlt, hko, hy]
      have hX2 := grown_cell hgr hX hXg
      have hY2 := grown_cell hgr hY hYg
      have hc2 : wr.cell? ⟨b, off + y, none⟩ = some (.int .i64 (fn lv y)) := (hat.grown hgr hbg) y (by omega)
      have hyi : (y : Int) < (nl : Int) := by omega
      have HL : Hid (q k = decide (m ≤ fn lv y)) := by
        show q k = decide (m ≤ fn lv y)
        rw [← HQ.out]; unfold atLeast; rw [hy]; simp
      clear hy hko
      by_cases hle : m ≤ fn lv y
      · have HK : Hid (q k = true) := by show q k = true; rw [HL.out]; simpa using hle
        have hdec : decide (m ≤ fn lv y) = true := by simpa using hle
        go_wp2_with (go_at_call 83; refine (closure_any X Y b off cap nl y _ m _ hX2 hY2 hc2 hyi).mono ?_; rintro e w5 ⟨rfl, nd, rfl⟩)
        go_roundw
        case rel =>
          refine ⟨f, k + 1, M, by omega, by omega, rfl, by go_num, hown.drewN _, ⟨hinv.out.1, hinv.out.2.1, fun z a c => ?_, hinv.out.2.2.2⟩, ⟨hgr.os, hgr.tape, hgr.output, hgr.size, hgr.block⟩, hsz⟩
          by_cases e : z = k
          · subst e; exact HK.out
          · exact hinv.out.2.2.1 z a (by omega)
        case measure => simp only [intOf]; omega
      · have HK : Hid (q k = false) := by show q k = false; rw [HL.out]; simpa using hle
        have hdec : decide (m ≤ fn lv y) = false := by simpa using hle
        have hfcp : (f : Int) < (cp : Int) := by omega
        have hfc : (f : Int) ≤ (k : Int) := by omega
        have hkc : (k : Int) ≤ (cp : Int) := by omega
        go_wp2_with (go_at_call 83; refine (closure_any X Y b off cap nl y _ m _ hX2 hY2 hc2 hyi).mono ?_; rintro e w5 ⟨rfl, nd, rfl⟩)
        refine (reverse_any g f (k - f) n cp _ B M _ (hown.drewN _) (by omega) hn).mono ?_
        rintro e w6 ⟨rfl, ⟨M2, hown2, hM2⟩, hgr2, hsz2⟩
        have hgr0 : w.grownBy (wr.drewN nd) (some g) := ⟨hgr.os, hgr.tape, hgr.output, hgr.size, hgr.block⟩
        have hgr3 : w.grownBy w6 (some g) := grown_both hgr0 hgr2
        have HS2 : Hid (w6.heap.size = w.heap.size) := by show w6.heap.size = w.heap.size; rw [hsz2]; exact hsz.out
        clear hsz2 hgr2
        go_wp2_with fail
        go_roundw
        case rel =>
          refine ⟨k + 1, k + 1, M2, Nat.le_refl _, by omega, by go_num, by go_num, hown2, ⟨fun x hx => ?_, fun x a c => ?_, fun z a c => by omega, .inr (by rw [Nat.add_sub_cancel]; exact HK.out)⟩, hgr3, HS2⟩
          · rw [hM2.out x (by omega)]
            by_cases e : x = k
            · subst e
              rw [if_neg (by omega), hinv.out.2.1 x hfk hlt, turn_out HK.out]
            · by_cases e2 : f ≤ x
              · rw [if_pos (by omega), hinv.out.2.1 _ (by omega) (by omega), turn_in (s := f) (e := k) e2 (by omega) (by rw [HOL.out]; omega) hinv.out.2.2.1 hinv.out.2.2.2 (.inr HK.out)]
                congr 1; omega
              · rw [if_neg (by omega)]; exact hinv.out.1 x (by omega)
          · rw [hM2.out x c, if_neg (by omega)]; exact hinv.out.2.1 x (by omega) c
        case measure => simp only [intOf]; omega
    · have e : k = n := by omega
      subst e
      have hfc : (f : Int) ≤ (k : Int) := by omega
      have hend : ∀ (M2 : List Int) (i0 m0 : Nat), M2.length = k → (∀ x, x < k → fn M2 x = if f ≤ x ∧ x < k then fn M (f + k - 1 - x) else fn M x) → M2 = turned q o := by
        intro M2 i0 m0 hl2 hM2
        refine ext_fn (by rw [turned_len, HOL.out]; exact hl2) (fun x hx => ?_)
        rw [hl2] at hx
        rw [fn_turned (by rw [HOL.out]; exact hx), hM2 x hx]
        by_cases e2 : f ≤ x
        · rw [if_pos (by omega), hinv.out.2.1 _ (by omega) (by omega), turn_in (s := f) (e := k) e2 hx (by rw [HOL.out]; omega) hinv.out.2.2.1 hinv.out.2.2.2 (.inl HOL.out.symm)]
        · rw [if_neg (by omega)]; exact hinv.out.1 x (by omega)
      have HE : Hid _ := hend
      clear hend
      by_cases hfe : f < cp
      · have hfcp : (f : Int) < (cp : Int) := by omega
        go_wp2_with fail
        refine (reverse_any g f (k - f) k cp _ B M _ hown (by omega) hn).mono ?_
        rintro e w6 ⟨rfl, ⟨M2, hown2, hM2⟩, hgr2, hsz2⟩
        have hgr3 : w.grownBy w6 (some g) := grown_both hgr hgr2
        have HS2 : Hid (w6.heap.size = w.heap.size) := by show w6.heap.size = w.heap.size; rw [hsz2]; exact hsz.out
        clear hsz2 hgr2
        go_wp2_with fail
        go_end0
        have el : M2 = turned q o := HE.out M2 0 0 hown2.len (fun x hx => by
          rw [hM2.out x hx, show f + (k - f) = k by omega, show 2 * f + (k - f) - 1 - x = f + k - 1 - x by omega])
        rw [el, ← HQ.out] at hown2
        exact ⟨rfl, hown2, hgr3, HS2.out⟩
      · have ef : f = cp := by omega
        subst ef
        have ek : k = f := by omega
        subst ek
        go_wp2_with fail
        refine (reverse_any g 0 0 k k _ B M _ hown (by omega) hn).mono ?_
        rintro e w6 ⟨rfl, ⟨M2, hown2, hM2⟩, hgr2, hsz2⟩
        have hgr3 : w.grownBy w6 (some g) := grown_both hgr hgr2
        have HS2 : Hid (w6.heap.size = w.heap.size) := by show w6.heap.size = w.heap.size; rw [hsz2]; exact hsz.out
        clear hsz2 hgr2
        go_wp2_with fail
        go_end0
        have el : M2 = turned q o := HE.out M2 0 0 hown2.len (fun x hx => by
          rw [hM2.out x hx, if_neg (by omega), if_neg (by omega)])
        rw [el, ← HQ.out] at hown2
        exact ⟨rfl, hown2, hgr3, HS2.out⟩
end Go.Proofs.YtgojdlbidjnmmaaGreat
namespace Go.Proofs.YtgojdlbidjnmmaaGreat
open Go.ChangeShapes Go.WideShapes Go.ChangeAt Go.RowKit
set_option linter.unusedSimpArgs false

theorem boxed (w : World) (v : Value) (T : TypeId) : ∃ W, w.alloc (.cells #[v] T) = W ∧ W.heap.size = w.heap.size + 1 ∧ Below w.heap.size w W ∧ W.cell? ⟨w.heap.size, 0, none⟩ = some v ∧ W.frozen? ⟨w.heap.size, 0, none⟩ = false :=
  ⟨_, rfl, by simp, (Below.refl _ _).alloc (Nat.le_refl _) _, by simp, by simp⟩
def ptrInt (w : World) : Value → Nat
  | .pointer (some a) => match w.cell? a with | some (.int _ n) => n.toNat | _ => 0
  | _ => 0
theorem ptrInt_of {w : World} {a : Addr} {k : IntKind} {n : Int} (h : w.cell? a = some (.int k n)) : ptrInt w (.pointer (some a)) = n.toNat := by simp [ptrInt, h]
theorem ord0_some (z : Nat → Int) (n : Nat) (h : 1 ≤ mostF z n) : 0 < (ord0 z n).length := by
  induction n with
  | zero => simp [mostF] at h
  | succ n ih =>
    simp only [mostF] at h
    simp only [ord0]
    split
    · simp
    · rename_i h0
      split at h
      · omega
      · exact ih h

set_option maxHeartbeats 8000000 in
theorem implOrder_row (b off cap n : Nat) (lv : List Int) (w : World) (hn : lv.length = n) (hl : n ≤ 80) (hlc : n ≤ cap) (hcm : cap ≤ maxLen) (hb : b < w.heap.size) (hat : At w b off lv) (hok : lvF (fn lv) n = true) :
    Calls Tryz.prog 39 #[.slice (some ⟨b, off, none⟩) n cap] w fun e w' => (∃ v', e = .returned v' ∧ OwnI w' w.heap.size v' (orderL lv)) ∧ Below w.heap.size w w' := by
  obtain ⟨W1, hW, hs1, hB1, hX, _⟩ := boxed w (.slice (some ⟨b, off, none⟩) n cap) 23
  have hat1 : At W1 b off lv := hat.below hB1 hb
  have HO := implLv (.slice (some ⟨b, off, none⟩) n cap) lv W1 (.inr ⟨b, off, cap, by rw [hn], by omega, by omega, hcm, hat1⟩) (by omega)
  rw [hn, hok] at HO
  have h22 : ∀ j, j < n → fn lv j ≤ 22 := fun j hj => by have := lvF_get hok hj; simp [lvl] at this; omega
  have HF : Hid (orderL lv = ordN lv (mostF (fn lv) n).toNat (ord0 (fn lv) n)) := by show orderL lv = _; unfold orderL; rw [hn]
  have H22 : Hid _ := h22
  have HWW : Hid _ := hW
  clear h22 hok hW
  obtain ⟨X, hXe⟩ : ∃ X, w.heap.size = X := ⟨_, rfl⟩
  have HXE : Hid _ := hXe
  go_enter Tryz.func39, Tryz.ntmps39
  go_wp2_with fail
  rw [hXe] at hX hs1 hB1 hb
  try rw [hXe]
  rw [HWW.out]
  clear hXe
  refine HO.mono ?_
  rintro e w1 ⟨rfl, rfl⟩
  go_wp2_with fail
  go_loopw [3, 4, 13] (fun q ms i wr => ∃ (k : Nat) (mm : Int), k ≤ n ∧ i = .int .i64 k ∧ ms = .int .i64 mm ∧ Hid (mm = mostF (fn lv) k) ∧ OwnI wr (X + 1) q (ord0 (fn lv) k) ∧ Below (X + 1) w1 wr) (fun _ _ i _ => n - (intOf i).toNat)
  case atStart => exact ⟨0, 0, Nat.zero_le _, rfl, rfl, rfl, OwnI.nil _ _, Below.refl _ _⟩
  case round =>
    obtain ⟨k, mm, hk, rfl, rfl, hmm, hown, hbel⟩ := hrel
    have hsz : X + 1 ≤ wr.heap.size := by have := hbel.size; omega
    by_cases hlt : k < n
    · have hcell : wr.cell? ⟨b, off + k, none⟩ = some (.int .i64 (fn lv k)) := (hat1.below hbel (by omega)) k (by omega)
      have hle := ord0_len (fn lv) k
      have hmb := mostF_bounds H22.out k (by omega)
      rw [← hmm.out] at hmb
      by_cases h0 : 0 ≤ fn lv k
      · have HOO : Hid (ord0 (fn lv) (k + 1) = ord0 (fn lv) k ++ [(k : Int)]) := by show ord0 _ _ = _; simp [ord0, h0]
        by_cases hg : mm < fn lv k
        · have HM : Hid (mostF (fn lv) (k + 1) = fn lv k) := by show mostF _ _ = _; have := hmm.out; simp only [mostF]; rw [if_pos (by omega)]
          go_wp2_with (at_builtin; refine own_append (.tmp 20) (.tmp 22) hown (by omega) hsz rfl rfl rfl rfl ?_; intro v' w5 hown5 hgr5)
          go_roundw
          case rel => exact ⟨k + 1, fn lv k, by omega, by go_num, by first | rfl | go_num, HM.out.symm, by rw [HOO.out]; exact hown5, grown_below hbel hgr5 hown (Nat.le_refl _) hsz⟩
          case measure => simp only [intOf]; omega
        · have HM : Hid (mostF (fn lv) (k + 1) = mm) := by show mostF _ _ = _; have := hmm.out; simp only [mostF]; rw [if_neg (by omega)]; omega
          go_wp2_with (at_builtin; refine own_append (.tmp 20) (.tmp 22) hown (by omega) hsz rfl rfl rfl rfl ?_; intro v' w5 hown5 hgr5)
          go_roundw
          case rel => exact ⟨k + 1, mm, by omega, by go_num, by first | rfl | go_num, HM.out.symm, by rw [HOO.out]; exact hown5, grown_below hbel hgr5 hown (Nat.le_refl _) hsz⟩
          case measure => simp only [intOf]; omega
      · have HOO : Hid (ord0 (fn lv) (k + 1) = ord0 (fn lv) k) := by show ord0 _ _ = _; simp [ord0, h0]
        have HM : Hid (mostF (fn lv) (k + 1) = mm) := by show mostF _ _ = _; have := hmm.out; simp only [mostF]; rw [if_neg (by omega)]; omega
        go_wp2_with fail
        go_roundw
        case rel => exact ⟨k + 1, mm, by omega, by go_num, rfl, HM.out.symm, by rw [HOO.out]; exact hown, hbel⟩
        case measure => simp only [intOf]; omega
    · have e : k = n := by omega
      subst e
      have hmb := mostF_bounds H22.out k (Nat.le_refl _)
      have hsome := ord0_some (fn lv) k
      rw [← hmm.out] at hmb HF hsome
      obtain ⟨Mx, hMx⟩ : ∃ Mx : Nat, mm = (Mx : Int) := ⟨mm.toNat, by omega⟩
      subst hMx
      rw [Int.toNat_natCast] at HF
      have hoin := ord0_inn (fn lv) k k (Nat.le_refl _)
      have hole := ord0_len (fn lv) k
      obtain ⟨L0, hL0⟩ : ∃ L0, (ord0 (fn lv) k).length = L0 := ⟨_, rfl⟩
      rw [hL0] at hsome hole
      have HOI : Hid _ := hoin
      have HSO : Hid _ := hsome
      clear hoin hsome
      obtain ⟨W2, hW2, hs2, hB2, hY2, hYf2⟩ := boxed wr (.int .i64 (Mx : Int)) 3
      have HW2 : Hid _ := hW2
      clear hW2
      go_wp2_with fail
      rw [HW2.out]
      go_loopw [7] (fun p wr2 => ∃ (m Y : Nat) (O : List Int), m ≤ Mx ∧ p = .pointer (some ⟨Y, 0, none⟩) ∧ wr2.cell? ⟨Y, 0, none⟩ = some (.int .i64 (m : Int)) ∧ wr2.frozen? ⟨Y, 0, none⟩ = false ∧ X + 1 ≤ Y ∧ Hid (∀ g, Value.ownBlock u3 = some g → Y ≠ g) ∧ OwnI wr2 (X + 1) u3 O ∧ O.length = L0 ∧ Hid (InnO k O ∧ ordN lv m O = orderL lv) ∧ Below (X + 1) w1 wr2) (fun p wr2 => ptrInt wr2 p)
      case atStart =>
        refine ⟨Mx, wr.heap.size, _, Nat.le_refl _, rfl, hY2, hYf2, hsz, fun g hg e => ?_, hown.below hB2, hL0, ⟨HOI.out, HF.out.symm⟩, hbel.trans (hB2.mono hsz)⟩
        have := (hown.lt g hg).2; omega
      case round =>
        obtain ⟨m, Y, O, hm, rfl, hY, hYf, hXY, hYg, hownO, hOl, hinv, hbelO⟩ := hrel
        have hX2 : wr.cell? ⟨X, 0, none⟩ = some (.slice (some ⟨b, off, none⟩) k cap) := (hbelO.cell (p := ⟨X, 0, none⟩) (by show X < X + 1; omega)).trans hX
        by_cases hm1 : 1 ≤ m
        · have hL : 0 < L0 := HSO.out (by omega)
          rcases hownO.forms with ⟨_, hO0⟩ | ⟨g, cp, rfl, hg, hgw, hlc2, hcm2, _⟩
          · exfalso; rw [hO0] at hOl; simp at hOl; omega
          · have hYg2 := hYg.out g rfl
            rw [hOl] at hownO hlc2 ⊢
            have hat2 := hat1.below hbelO (by omega)
            have hmi : (1 : Int) ≤ (m : Int) := by omega
            have HIN : Hid (InnO k O) := hinv.out.1
            have HNX : Hid (ordN lv (m - 1) (turned (atLeast lv O (m : Int)) O) = orderL lv) := by
              show ordN lv (m - 1) (turned (atLeast lv O (m : Int)) O) = orderL lv
              rw [← hinv.out.2]
              obtain ⟨j, rfl⟩ : ∃ j, m = j + 1 := ⟨m - 1, by omega⟩
              rfl
            go_wp2_with fail
            refine (implTurn_row g L0 cp (X + 1) X Y b off cap k O lv _ _ hownO hX2 hY (by omega) hYg2 (by omega) hat2 hn (by omega) HIN).mono ?_
            rintro e w6 ⟨rfl, o6, gr6, sz6⟩
            have hY6 := grown_cell gr6 hY hYg2
            have hs6 : X + 1 ≤ w6.heap.size := by have := hbelO.size; have := gr6.size; omega
            have hbel6 : Below (X + 1) w1 w6 := hbelO.grown gr6 (by have := hbelO.size; omega) (fun kk hkk => by simp at hkk; omega)
            have HS6 : Hid _ := sz6
            clear sz6
            go_wp2_with fail
            obtain ⟨W7, hW7, hs7, hB7, hY7, hYf7⟩ := boxed w6 (.int .i64 ((m : Int) - 1)) 3
            rw [hW7]
            have hm2 : (m : Int) - 1 = ((m - 1 : Nat) : Int) := by omega
            rw [hm2] at hY7
            refine ⟨⟨m - 1, w6.heap.size, _, by omega, rfl, hY7, hYf7, by omega, fun gg hgg e => ?_, o6.below hB7, by rw [turned_len]; exact hOl, ⟨inn_turned HIN.out _, HNX.out⟩, hbel6.trans (hB7.mono (by omega))⟩, ?_⟩
            · simp [Value.ownBlock] at hgg
              have := gr6.size; omega
            · rw [ptrInt_of hY7, ptrInt_of hY]; omega
        · have hm0 : m = 0 := by omega
          subst hm0
          go_wp2_with fail
          go_ret
          refine ⟨⟨_, rfl, ?_⟩, ?_⟩
          · rw [← hinv.out.2, HXE.out]; exact hownO.mono (by omega)
          · rw [HXE.out]; exact hB1.trans (hbelO.mono (by omega))
end Go.Proofs.YtgojdlbidjnmmaaGreat
namespace Go.Proofs.YtgojdlbidjnmmaaGreat
open Go.ChangeShapes Go.WideShapes Go.ChangeAt Go.RowKit
set_option linter.unusedSimpArgs false

def ordR (lv : List Int) : List Int := if lvF (fn lv) lv.length = true then orderL lv else []
theorem ordR_len (lv : List Int) : (ordR lv).length ≤ 80 := by
  unfold ordR
  split
  · rename_i h
    unfold orderL
    rw [ordN_len]
    have := ord0_len (fn lv) lv.length; have := lvF_len h; omega
  · simp

set_option maxHeartbeats 1000000 in
theorem implOrd (v : Value) (l : List Int) (w : World) (hv : Arg w v l) (hl : l.length ≤ 4194304) :
    Calls Tryz.prog 39 #[v] w fun e w' => (∃ v', e = .returned v' ∧ OwnI w' w.heap.size v' (ordR l)) ∧ Below w.heap.size w w' := by
  cases hok : lvF (fn l) l.length
  · have HC : Hid (ordR l = []) := show ordR l = [] by simp [ordR, hok]
    have hv1 := hv.below (w' := w.alloc (.cells #[v] 23)) ((Below.refl _ _).alloc (Nat.le_refl _) _)
    have HO := implLv v l _ hv1 hl
    rw [hok] at HO
    rcases hv with ⟨a0, c0, rfl, rfl⟩ | ⟨b, off, cap, rfl, hb, hlc, hcm, hat⟩
    all_goals
      go_enter Tryz.func39, Tryz.ntmps39
      go_wp2_with (go_at_call 52; refine HO.mono ?_; rintro e w' ⟨rfl, rfl⟩)
      go_ret
      exact ⟨⟨_, rfl, by rw [HC.out]; exact OwnI.nil _ _⟩, by go_grown⟩
  · have HC : Hid (ordR l = orderL l) := show ordR l = _ by simp [ordR, hok]
    have h80 := lvF_len hok
    rcases hv with ⟨a0, c0, rfl, rfl⟩ | ⟨b, off, cap, rfl, hb, hlc, hcm, hat⟩
    · have HO := implLv (.slice a0 0 c0) [] (w.alloc (.cells #[.slice a0 0 c0] 23)) (.inl ⟨_, _, rfl, rfl⟩) hl
      rw [hok] at HO
      go_enter Tryz.func39, Tryz.ntmps39
      go_wp2_with (go_at_call 52; refine HO.mono ?_; rintro e w' ⟨rfl, rfl⟩)
      go_rounds 1
      go_rounds 1
      go_ret
      exact ⟨⟨_, rfl, OwnI.nil _ _⟩, by go_grown⟩
    · have HR := implOrder_row b off cap l.length l w rfl h80 hlc hcm hb hat hok
      rw [HC.out]
      exact HR
end Go.Proofs.YtgojdlbidjnmmaaGreat
namespace Go.Proofs.YtgojdlbidjnmmaaGreat
open Go.ChangeShapes Go.WideShapes Go.ChangeAt Go.RowKit
set_option linter.unusedSimpArgs false

theorem infoM : (Tryz.prog.info? 3).map (fun i => (i.zero, i.size, i.bytes)) = some (some (.int .i64 0), 1, 8) := by kernel_rfl

theorem made_rowF {w : World} {B g n : Nat} (h : w.ownsRow B 3 1 (.slice (some ⟨g, 0, none⟩) n n) n (madeCells (Value.cells (.int .i64 0)) (n * 1)).toList) :
    OwnI w B (.slice (some ⟨g, 0, none⟩) n n) (List.replicate n 0) := by
  have e : (madeCells (Value.cells (.int .i64 0)) (n * 1)).toList = (List.replicate n (0 : Int)).map (Value.int .i64) := by
    rw [Nat.mul_one, show Value.cells (.int .i64 0) = #[.int .i64 0] from rfl, toList_madeCells_one]; simp
  rw [e] at h
  unfold OwnI
  rw [List.length_replicate]
  exact h
end Go.Proofs.YtgojdlbidjnmmaaGreat
namespace Go.Proofs.YtgojdlbidjnmmaaGreat
open Go.ChangeShapes Go.WideShapes Go.ChangeAt Go.RowKit
set_option linter.unusedSimpArgs false

theorem fn_rep {n j : Nat} {x : Int} (h : j < n) : fn (List.replicate n x) j = x := by simp [fn, h]

set_option maxHeartbeats 2000000 in
theorem fill_row (g n cap : Nat) (l : List Int) (B : Nat) (x : Int) (w : World) (hv : OwnI w B (.slice (some ⟨g, 0, none⟩) n cap) l) (hl : n ≤ 1048576) :
    Calls Tryz.prog 53 #[.slice (some ⟨g, 0, none⟩) n cap, .int .i64 x] w fun e w' => e = .returned (.tuple #[]) ∧ OwnI w' B (.slice (some ⟨g, 0, none⟩) n cap) (List.replicate n x) ∧ w.grownBy w' (some g) ∧ w'.heap.size = w.heap.size := by
  go_enter Tryz.func53, Tryz.ntmps53
  go_wp2
  go_loopw [7] (fun i wr => ∃ (m : Nat) (l' : List Int), m ≤ n ∧ i = .int .i64 m ∧ OwnI wr B (.slice (some ⟨g, 0, none⟩) n cap) l' ∧ Hid (∀ j, j < m → fn l' j = x) ∧ w.grownBy wr (some g) ∧ Hid (wr.heap.size = w.heap.size)) (fun i _ => n - (intOf i).toNat)
  case atStart => exact ⟨0, l, Nat.zero_le _, rfl, hv, fun j hj => by omega, ⟨rfl, rfl, rfl, Nat.le_refl _, fun _ _ _ => rfl⟩, rfl⟩
  case round =>
    obtain ⟨m, l', hm, rfl, hown, hsame, hgr, hsz⟩ := hrel
    by_cases hlt : m < n
    · have hf : wr.frozen? ⟨g, m, none⟩ = false := hown.frozenN m
      have hc2 : wr.cell? ⟨g, m, none⟩ = some (.int .i64 (fn l' m)) := hown.cellN m hlt
      go_wp2
      go_roundw
      case rel =>
        refine ⟨m + 1, l'.set m x, by omega, by go_num, hown.storedN m _, fun j hj => ?_, ?_, ?_⟩
        · have e := hown.len
          by_cases ej : j = m
          · subst ej; exact fn_set_same (by omega)
          · rw [fn_set_other (by omega)]; exact hsame.out j (by omega)
        · exact ⟨hgr.os, hgr.tape, hgr.output, by simpa using hgr.size, fun i hi hne => (heap_setCell_other wr ⟨g, m, none⟩ i _ (fun e => hne (by rw [e]))).trans (hgr.block i hi hne)⟩
        · show (wr.setCell _ _).heap.size = w.heap.size
          rw [World.size_setCell]; exact hsz.out
      case measure => simp only [intOf]; omega
    · have e : m = n := by omega
      subst e
      go_wp2
      go_end0
      have e := hown.len
      have el : l' = List.replicate m x := ext_fn (by rw [List.length_replicate]; exact e) (fun j hj => by rw [hsame.out j (by omega), fn_rep (by omega)])
      rw [el] at hown
      exact ⟨rfl, hown, hgr, hsz.out⟩
end Go.Proofs.YtgojdlbidjnmmaaGreat
namespace Go.Proofs.YtgojdlbidjnmmaaGreat
open Go.ChangeShapes Go.WideShapes Go.ChangeAt Go.RowKit
set_option linter.unusedSimpArgs false

def backF (n : Nat) (o : List Int) : Nat → List Int
  | 0 => List.replicate n (-1)
  | k + 1 => (backF n o k).set (fn o k).toNat (k : Int)
theorem backF_len (n : Nat) (o : List Int) (k : Nat) : (backF n o k).length = n := by
  induction k with
  | zero => simp [backF]
  | succ k ih => simp [backF, ih]
def backR (lv : List Int) : List Int := if lvF (fn lv) lv.length = true then backF lv.length (orderL lv) (orderL lv).length else []
theorem backR_len (lv : List Int) : (backR lv).length ≤ 80 := by
  unfold backR
  split
  · rename_i h; rw [backF_len]; exact lvF_len h
  · simp
theorem ordN_inn {n : Nat} (lv : List Int) (m : Nat) (o : List Int) (h : InnO n o) : InnO n (ordN lv m o) := by
  induction m generalizing o with
  | zero => exact h
  | succ m ih => simp only [ordN]; exact ih _ (inn_turned h _)
theorem orderL_inn (lv : List Int) : InnO lv.length (orderL lv) := by
  unfold orderL; exact ordN_inn _ _ _ (ord0_inn _ _ _ (Nat.le_refl _))
theorem rep_snoc (k : Nat) (x : Int) : List.replicate (k + 1) x = List.replicate k x ++ [x] := by
  rw [List.replicate_succ']

set_option maxHeartbeats 4000000 in
theorem implBack (a : Option Addr) (n cap : Nat) (lv : List Int) (w : World) (hn : lv.length = n) (hv : Arg w (.slice a n cap) lv) (hl : n ≤ 4194304) :
    Calls Tryz.prog 22 #[.slice a n cap] w fun e w' => (∃ v', e = .returned v' ∧ OwnI w' w.heap.size v' (backR lv)) ∧ Below w.heap.size w w' := by
  have HO := implLv _ lv w hv (by omega)
  rw [hn] at HO
  cases hok : lvF (fn lv) n
  · have HC : Hid (backR lv = []) := show backR lv = [] by simp [backR, hn, hok]
    rw [hok] at HO
    go_enter Tryz.func22, Tryz.ntmps22
    go_wp2_with (go_at_call 52; refine HO.mono ?_; rintro e w' ⟨rfl, rfl⟩)
    go_ret
    exact ⟨⟨_, rfl, by rw [HC.out]; exact OwnI.nil _ _⟩, Below.refl _ _⟩
  · have h80 := lvF_len hok
    obtain ⟨O, hO⟩ : ∃ O, orderL lv = O := ⟨_, rfl⟩
    have HC : Hid (backR lv = backF n O O.length) := show backR lv = _ by simp [backR, hn, hok, hO]
    have HI : Hid (InnO n O) := show InnO n O by rw [← hO, ← hn]; exact orderL_inn lv
    have HOR : Hid (ordR lv = O) := show ordR lv = O by simp [ordR, hn, hok, hO]
    have HLV : Hid _ := hn
    rw [hok] at HO
    obtain ⟨i0, hi, hz0, hz1, hz2⟩ := info_parts infoM
    clear hn hok hO
    go_enter Tryz.func22, Tryz.ntmps22
    go_wp2_with fail
    refine HO.mono ?_
    rintro e w1 ⟨rfl, rfl⟩
    go_wp2_with (first | (at_make; refine wpList_make_full _ rfl _ _ 23 rfl w1.heap.size 3 i0 (.int .i64 0) 1 Tryz.underlying23 hi hz0 hz1 _ _ _ _ n rfl rfl rfl rfl (by rw [hz2]; omega) (by unfold maxLen; omega) (Nat.le_refl _) ?_; intro w2 hown hgrow))
    have hB : Below w1.heap.size w1 w2 := (Below.refl _ _).grown hgrow (Nat.le_refl _) (by simp)
    have ho : OwnI w2 w1.heap.size (.slice (some ⟨w1.heap.size, 0, none⟩) n n) (List.replicate n 0) := made_rowF hown
    clear hown hgrow
    refine (fill_row w1.heap.size n n _ w1.heap.size (-1) w2 ho (by omega)).mono ?_
    rintro e w3 ⟨rfl, ho3, gr3, sz3⟩
    have hB3 : Below w1.heap.size w1 w3 := hB.grown gr3 hB.size (fun kk hkk => by simp at hkk; omega)
    have hlt3 := (ho3.lt w1.heap.size rfl).2
    have hv3 := hv.below hB3
    clear sz3 gr3 ho
    go_wp2_with fail
    refine (implOrd _ lv w3 hv3 (by rw [HLV.out]; omega)).mono ?_
    rintro e w4 ⟨⟨vo, rfl, oo⟩, b4⟩
    rw [HOR.out] at oo
    have hB4 := bstep hB3 b4
    have ho4 := ho3.below b4
    obtain ⟨L, hL⟩ : ∃ L, O.length = L := ⟨_, rfl⟩
    rw [hL] at HC
    by_cases hL0 : L = 0
    · subst hL0
      rcases oo.forms with ⟨rfl, _⟩ | ⟨g2, cp2, rfl, _⟩
      all_goals
        try rw [hL]
        go_wp2_with fail
        go_rounds 1
        go_ret
        exact ⟨⟨_, rfl, by rw [HC.out]; exact ho4⟩, hB4⟩
    · rcases oo.forms with ⟨rfl, he⟩ | ⟨g2, cp2, rfl, hg2, hgw2, hlc2, hcm2, hat2⟩
      · exfalso; rw [he] at hL; simp at hL; omega
      · rw [hL] at hlc2 oo ⊢
        have hne : g2 ≠ w1.heap.size := by omega
        have hLs : L ≤ 80 := by
          have := ordR_len lv
          rw [HOR.out] at this; omega
        go_wp2_with fail
        go_loopw [17] (fun i wr => ∃ (k : Nat), k ≤ L ∧ i = .int .i64 k ∧ OwnI wr w1.heap.size (.slice (some ⟨w1.heap.size, 0, none⟩) n n) (backF n O k) ∧ w4.grownBy wr (some w1.heap.size)) (fun i _ => L - (intOf i).toNat)
        case atStart => exact ⟨0, Nat.zero_le _, rfl, ho4, ⟨rfl, rfl, rfl, Nat.le_refl _, fun _ _ _ => rfl⟩⟩
        case round =>
          obtain ⟨k, hk, rfl, hown, hgr⟩ := hrel
          by_cases hlt : k < L
          · obtain ⟨hp0, hp1⟩ := HI.out k (by omega)
            obtain ⟨p, hp⟩ : ∃ p : Nat, fn O k = (p : Int) := ⟨(fn O k).toNat, by omega⟩
            have HS : Hid (backF n O (k + 1) = (backF n O k).set p (k : Int)) := show backF n O (k + 1) = _ by simp [backF, hp]
            have hpn : p < n := by omega
            have hc0 := hat2 k (by omega)
            rw [hp, Nat.zero_add] at hc0
            have hc1 : wr.cell? ⟨g2, k, none⟩ = some (.int .i64 (p : Int)) := grown_cell hgr hc0 hne
            have hf : wr.frozen? ⟨w1.heap.size, p, none⟩ = false := hown.frozenN p
            have hc2 : wr.cell? ⟨w1.heap.size, p, none⟩ = some (.int .i64 (fn (backF n O k) p)) := hown.cellN p hpn
            clear hp hp0 hp1 hc0
            go_wp2_with fail
            go_roundw
            case rel =>
              refine ⟨k + 1, by omega, by go_num, by rw [HS.out]; exact hown.storedN p _, ?_⟩
              exact ⟨hgr.os, hgr.tape, hgr.output, by simpa using hgr.size, fun i hi hne => (heap_setCell_other wr ⟨w1.heap.size, p, none⟩ i _ (fun e => hne (by rw [e]))).trans (hgr.block i hi hne)⟩
            case measure => simp only [intOf]; omega
          · have e : k = L := by omega
            subst e
            go_wp2_with fail
            go_ret
            exact ⟨⟨_, rfl, by rw [HC.out]; exact hown⟩, hB4.grown hgr hB4.size (fun kk hkk => by simp at hkk; omega)⟩
end Go.Proofs.YtgojdlbidjnmmaaGreat
namespace Go.Proofs.YtgojdlbidjnmmaaGreat
set_option linter.unusedSimpArgs false

theorem stA_spec (q : Nat → Bool) (x : Nat) : (∀ y, stA q x ≤ y → y < x → q y = true) ∧ (stA q x = 0 ∨ q (stA q x - 1) = false) := by
  induction x with
  | zero => exact ⟨fun y _ h => by omega, .inl rfl⟩
  | succ x ih =>
    simp only [stA]
    split
    · rename_i h
      refine ⟨fun y h1 h2 => ?_, ih.2⟩
      by_cases e : y = x
      · subst e; exact h
      · exact ih.1 y h1 (by omega)
    · rename_i h
      exact ⟨fun y h1 h2 => by omega, .inr (by simpa using h)⟩
theorem enA_spec (q : Nat → Bool) (f x : Nat) : (∀ y, x ≤ y → y < enA q f x → q y = true) ∧ (enA q f x = x + f ∨ q (enA q f x) = false) := by
  induction f generalizing x with
  | zero => exact ⟨fun y h1 h2 => by simp [enA] at h2; omega, .inl rfl⟩
  | succ f ih =>
    simp only [enA]
    split
    · rename_i h
      obtain ⟨h1, h2⟩ := ih (x + 1)
      refine ⟨fun y a b => ?_, ?_⟩
      · by_cases e : y = x
        · subst e; exact h
        · exact h1 y (by omega) b
      · rcases h2 with h2 | h2
        · exact .inl (by omega)
        · exact .inr h2
    · rename_i h
      exact ⟨fun y a b => by omega, .inr (by simpa using h)⟩
/-- The stretch of a place. -/
theorem stretch {q : Nat → Bool} {n x : Nat} (hx : x < n) (hq : q x = true) : ∃ s e, s ≤ x ∧ x < e ∧ e ≤ n ∧ (∀ y, s ≤ y → y < e → q y = true) ∧ (s = 0 ∨ q (s - 1) = false) ∧ (e = n ∨ q e = false) := by
  refine ⟨stA q x, enA q (n - x) x, stA_le q x, ?_, ?_, ?_, (stA_spec q x).2, ?_⟩
  · obtain ⟨f, hf⟩ : ∃ f, n - x = f + 1 := ⟨n - x - 1, by omega⟩
    rw [hf]; simp only [enA]; rw [if_pos hq]; have := (enA_bounds q f (x + 1)).1; omega
  · have := (enA_bounds q (n - x) x).2; omega
  · intro y h1 h2
    by_cases e : y < x
    · exact (stA_spec q x).1 y h1 e
    · exact (enA_spec q (n - x) x).1 y (by omega) h2
  · rcases (enA_spec q (n - x) x).2 with h | h
    · exact .inl (by omega)
    · exact .inr h
/-- Where what stands at a place has stood. -/
def turnTo (q : Nat → Bool) (n x : Nat) : Nat := if q x = true then stA q x + enA q (n - x) x - 1 - x else x
theorem turnTo_in {q : Nat → Bool} {n s e x : Nat} (hs : s ≤ x) (he : x < e) (hn : e ≤ n) (hin : ∀ y, s ≤ y → y < e → q y = true) (hb : s = 0 ∨ q (s - 1) = false) (hb2 : e = n ∨ q e = false) : turnTo q n x = s + e - 1 - x := by
  unfold turnTo
  rw [if_pos (hin x hs he), stA_is hs (fun y a b => hin y a (by omega)) hb, enA_is (by omega) hn (fun y a b => hin y (by omega) b) hb2]
theorem turnTo_lt {q : Nat → Bool} {n x : Nat} (hx : x < n) : turnTo q n x < n := by
  by_cases hq : q x = true
  · obtain ⟨s, e, h1, h2, h3, h4, h5, h6⟩ := stretch hx hq
    rw [turnTo_in h1 h2 h3 h4 h5 h6]; omega
  · simp [turnTo, hq]; exact hx
theorem turnTo_twice {q : Nat → Bool} {n x : Nat} (hx : x < n) : turnTo q n (turnTo q n x) = x := by
  by_cases hq : q x = true
  · obtain ⟨s, e, h1, h2, h3, h4, h5, h6⟩ := stretch hx hq
    rw [turnTo_in h1 h2 h3 h4 h5 h6, turnTo_in (by omega) (by omega) h3 h4 h5 h6]; omega
  · simp [turnTo, hq]
theorem fn_turnTo {q : Nat → Bool} {l : List Int} {x : Nat} (h : x < l.length) : fn (turned q l) x = fn l (turnTo q l.length x) := by
  rw [fn_turned h]; unfold turnAt turnTo; split <;> rfl

/-- An order: each place that is seen stands in it once. -/
structure Ord (lv : List Int) (o : List Int) : Prop where
  inn : ∀ x, x < o.length → 0 ≤ fn o x ∧ fn o x < (lv.length : Int) ∧ 0 ≤ fn lv (fn o x).toNat
  inj : ∀ x y, x < o.length → y < o.length → fn o x = fn o y → x = y
  all : ∀ j, j < lv.length → 0 ≤ fn lv j → ∃ x, x < o.length ∧ fn o x = (j : Int)
theorem Ord.turned {lv o : List Int} (h : Ord lv o) (q : Nat → Bool) : Ord lv (turned q o) := by
  refine ⟨fun x hx => ?_, fun x y hx hy e => ?_, fun j hj h0 => ?_⟩
  · rw [turned_len] at hx
    rw [fn_turnTo hx]
    exact h.inn _ (turnTo_lt hx)
  · rw [turned_len] at hx hy
    rw [fn_turnTo hx, fn_turnTo hy] at e
    have := h.inj _ _ (turnTo_lt hx) (turnTo_lt hy) e
    rw [← turnTo_twice (q := q) hx, this, turnTo_twice hy]
  · obtain ⟨x, hx, e⟩ := h.all j hj h0
    exact ⟨turnTo q o.length x, by rw [turned_len]; exact turnTo_lt hx, by rw [fn_turnTo (turnTo_lt hx), turnTo_twice hx, e]⟩
theorem Ord.all_turns {lv : List Int} (m : Nat) {o : List Int} (h : Ord lv o) : Ord lv (ordN lv m o) := by
  induction m generalizing o with
  | zero => exact h
  | succ m ih => simp only [ordN]; exact ih (h.turned _)
theorem fn_snoc (o : List Int) (x : Int) : fn (o ++ [x]) o.length = x := by simp [fn]
theorem ord0_facts (z : Nat → Int) (k : Nat) : (∀ x, x < (ord0 z k).length → 0 ≤ fn (ord0 z k) x ∧ fn (ord0 z k) x < (k : Int) ∧ 0 ≤ z (fn (ord0 z k) x).toNat) ∧
    (∀ x y, x < (ord0 z k).length → y < (ord0 z k).length → fn (ord0 z k) x = fn (ord0 z k) y → x = y) ∧ ∀ j, j < k → 0 ≤ z j → fn (ord0 z k) (ord0 z j).length = (j : Int) ∧ (ord0 z j).length < (ord0 z k).length := by
  induction k with
  | zero => simp [ord0]
  | succ k ih =>
    obtain ⟨h1, h2, h3⟩ := ih
    simp only [ord0]
    split
    · rename_i h0
      refine ⟨fun x hx => ?_, fun x y hx hy e => ?_, fun j hj hz => ?_⟩
      · simp at hx
        by_cases e : x = (ord0 z k).length
        · subst e; rw [fn_snoc]; simp; exact ⟨by omega, h0⟩
        · rw [fn_append_left (by omega)]; have := h1 x (by omega); omega
      · simp at hx hy
        by_cases ex : x = (ord0 z k).length
        · by_cases ey : y = (ord0 z k).length
          · omega
          · exfalso
            rw [ex, fn_snoc, fn_append_left (by omega)] at e
            have := h1 y (by omega); omega
        · by_cases ey : y = (ord0 z k).length
          · exfalso
            rw [ey, fn_snoc, fn_append_left (by omega)] at e
            have := h1 x (by omega); omega
          · rw [fn_append_left (by omega), fn_append_left (by omega)] at e
            exact h2 x y (by omega) (by omega) e
      · by_cases e : j = k
        · subst e; rw [fn_snoc]; simp
        · obtain ⟨a, b⟩ := h3 j (by omega) hz
          rw [fn_append_left b]; simp; exact ⟨a, by omega⟩
    · rename_i h0
      refine ⟨fun x hx => ?_, h2, fun j hj hz => ?_⟩
      · have := h1 x hx; omega
      · by_cases e : j = k
        · subst e; exact absurd hz h0
        · exact h3 j (by omega) hz
theorem ord0_ord (lv : List Int) : Ord lv (ord0 (fn lv) lv.length) := by
  obtain ⟨h1, h2, h3⟩ := ord0_facts (fn lv) lv.length
  exact ⟨h1, h2, fun j hj h0 => ⟨_, (h3 j hj h0).2, (h3 j hj h0).1⟩⟩
theorem orderL_ord (lv : List Int) : Ord lv (orderL lv) := (ord0_ord lv).all_turns _
theorem orderL_len (lv : List Int) : (orderL lv).length = (ord0 (fn lv) lv.length).length := by unfold orderL; rw [ordN_len]

theorem backF_at {n : Nat} {o : List Int} (hin : ∀ x, x < o.length → 0 ≤ fn o x ∧ fn o x < (n : Int)) (hj : ∀ x y, x < o.length → y < o.length → fn o x = fn o y → x = y) (k : Nat) (hk : k ≤ o.length) :
    (∀ x, x < k → fn (backF n o k) (fn o x).toNat = (x : Int)) ∧ ∀ p, p < n → (∀ x, x < k → fn o x ≠ (p : Int)) → fn (backF n o k) p = -1 := by
  induction k with
  | zero => exact ⟨fun x hx => by omega, fun p hp _ => by simp only [backF]; exact fn_rep hp⟩
  | succ k ih =>
    obtain ⟨h1, h2⟩ := ih (by omega)
    have hk0 := hin k (by omega)
    have hl := backF_len n o k
    simp only [backF]
    refine ⟨fun x hx => ?_, fun p hp hne => ?_⟩
    · by_cases e : x = k
      · subst e; rw [fn_set_same (by omega)]
      · have hx0 := hin x (by omega)
        rw [fn_set_other (fun e2 => e (hj x k (by omega) (by omega) (by omega)))]
        exact h1 x (by omega)
    · have := hne k (by omega)
      rw [fn_set_other (by omega)]
      exact h2 p hp (fun x hx => hne x (by omega))
/-- What the law asks of a place. -/
theorem back_is (lv : List Int) {i : Nat} (hi : i < lv.length) :
    (fn lv i < 0 → fn (backF lv.length (orderL lv) (orderL lv).length) i = -1) ∧ (0 ≤ fn lv i → ∃ x : Nat, x < (orderL lv).length ∧ fn (backF lv.length (orderL lv) (orderL lv).length) i = (x : Int) ∧ fn (orderL lv) x = (i : Int)) := by
  have ho := orderL_ord lv
  obtain ⟨h1, h2⟩ := backF_at (n := lv.length) (fun x hx => ⟨(ho.inn x hx).1, (ho.inn x hx).2.1⟩) ho.inj _ (Nat.le_refl _)
  refine ⟨fun h => h2 i hi (fun x hx e => ?_), fun h => ?_⟩
  · have := (ho.inn x hx).2.2
    rw [e] at this; simp at this; omega
  · obtain ⟨x, hx, e⟩ := ho.all i hi h
    refine ⟨x, hx, ?_, e⟩
    have := h1 x hx
    rw [e] at this; simpa using this
end Go.Proofs.YtgojdlbidjnmmaaGreat
namespace Go.Proofs.YtgojdlbidjnmmaaGreat
open Go.ChangeShapes Go.WideShapes Go.ChangeAt Go.RowKit

set_option maxHeartbeats 1000000 in
theorem implMirror (r : Int) (w : World) : Calls Tryz.prog 23 #[.int .i64 r] w fun e w' => e = .returned (.int .i64 (mirror r)) ∧ w' = w := by
  by_cases hm : mate r = 0
  · have hb : (mate r == 0) = true := by simp [hm]
    go_enter Tryz.func23, Tryz.ntmps23
    go_wp2_with (go_at_call 54; refine (implMate _ _).mono ?_; rintro e w' ⟨rfl, rfl⟩)
    all_goals (go_ret; refine ⟨ret_int ?_, rfl⟩)
    all_goals (simp_all [mirror])
  · have hb : (mate r == 0) = false := by simp [hm]
    go_enter Tryz.func23, Tryz.ntmps23
    go_wp2_with (go_at_call 54; refine (implMate _ _).mono ?_; rintro e w' ⟨rfl, rfl⟩)
    all_goals (go_ret; refine ⟨ret_int ?_, rfl⟩)
    all_goals (simp_all [mirror])

set_option maxHeartbeats 1000000 in
theorem specMirror (r : Int) (w : World) : Calls Tryz.prog 51 #[.int .i64 r] w fun e w' => e = .returned (.int .i64 (mirror r)) ∧ Below w.heap.size w w' := by
  by_cases hm : mate r = 0
  · have hb : (mate r == 0) = true := by simp [hm]
    go_enter Tryz.func51, Tryz.ntmps51
    go_wp2_with fail
    refine (specMate _ _).mono ?_
    rintro e w' ⟨rfl, hw⟩
    go_wp2_with fail
    all_goals (go_ret; refine ⟨ret_int ?_, hw⟩)
    all_goals (simp_all [mirror])
  · have hb : (mate r == 0) = false := by simp [hm]
    go_enter Tryz.func51, Tryz.ntmps51
    go_wp2_with fail
    refine (specMate _ _).mono ?_
    rintro e w' ⟨rfl, hw⟩
    go_wp2_with fail
    refine (specMate _ _).mono ?_
    rintro e w'' ⟨rfl, hw2⟩
    go_wp2_with fail
    all_goals (go_ret; refine ⟨ret_int ?_, hw.trans (hw2.mono hw.size)⟩)
    all_goals (simp_all [mirror])
end Go.Proofs.YtgojdlbidjnmmaaGreat
namespace Go.Proofs.YtgojdlbidjnmmaaGreat
set_option linter.unusedSimpArgs false
set_option linter.unusedVariables false

/-- What is seen of a letter on a level. -/
def seenF (r v : Int) : Int := if v % 2 = 1 then mirror r else r
/-- What is seen of a line, its levels being known. -/
def seenL (l lv : List Int) (f : Nat) : List Int := (orderL lv).map (fun p => seenF (fn l (f + p.toNat)) (fn lv p.toNat))
theorem seenL_len (l lv : List Int) (f : Nat) : (seenL l lv f).length = (orderL lv).length := by simp [seenL]
theorem seenL_take {l lv : List Int} {f k : Nat} (h : k < (orderL lv).length) : (seenL l lv f).take (k + 1) = (seenL l lv f).take k ++ [seenF (fn l (f + (fn (orderL lv) k).toNat)) (fn lv (fn (orderL lv) k).toNat)] := by
  have hk : k < (seenL l lv f).length := by rw [seenL_len]; exact h
  rw [List.take_add_one, List.getElem?_eq_getElem hk]
  simp [seenL, fn_get h]
def seenR (l : List Int) (mt : Nat → Nat) (base f t : Int) : List Int := seenL l (lineLR l mt base f t) f.toNat
theorem levF_rng {l : List Int} {mt : Nat → Nat} {base : Int} {n : Nat} (h : LevTxt l mt base n) {j : Nat} (hj : j < n) : -1 ≤ fn (levsF l mt base) j ∧ fn (levsF l mt base) j ≤ 22 := by
  have hb := lvAt_bd (cl l) (fsF (cl l) mt) h.b01 j
  rw [← fn_lvL (n := n) hj] at hb
  have h01 := h.b01
  by_cases hs : 0 ≤ fn (lvL (cl l) (fsF (cl l) mt) base n) j
  · obtain ⟨r, k, hk, _, _, e, _⟩ := levF_at h hj hs
    have hm := moreF_bd (fn (lvL (cl l) (fsF (cl l) mt) base n) j) (fn (runL (cl l) l (lvL (cl l) (fsF (cl l) mt) base n) (clL (cl l) (fsF (cl l) mt) base n) n mt base r) k)
    rcases hb with ⟨_, q⟩ | ⟨_, q1, q2⟩ <;> omega
  · have e := levF_no h hj (by omega)
    rcases hb with ⟨_, q⟩ | ⟨_, q1, q2⟩ <;> omega
/-- The levels of a line are levels. -/
theorem lineLR_ok {l : List Int} {mt : Nat → Nat} {base f t : Int} (hmt : MateFn (cl l) l.length mt) : (lineLR l mt base f t).length ≤ 80 ∧ ∀ j, j < (lineLR l mt base f t).length → -1 ≤ fn (lineLR l mt base f t) j ∧ fn (lineLR l mt base f t) j ≤ 22 := by
  by_cases h : okT l base = true ∧ 0 ≤ f ∧ f ≤ t ∧ t ≤ l.length
  · have hx := levTxt h.1 hmt
    have hl := lineLR_le l mt base f t
    have h80 := hx.h80
    refine ⟨by omega, ?_⟩
    rw [lineLR_yes h]
    unfold lineLv
    rw [llF_len]
    intro j hj
    rw [show fn (llF (fun j => fn l (f.toNat + j)) (fun j => fn (levsF l mt base) (f.toNat + j)) (t.toNat - f.toNat) base) j = llA (fun j => fn l (f.toNat + j)) (fun j => fn (levsF l mt base) (f.toNat + j)) (t.toNat - f.toNat) base j from fn_mkL hj]
    unfold llA
    have := levF_rng hx (j := f.toNat + j) (by omega)
    have := hx.b01
    split <;> omega
  · rw [lineLR_no h]; simp
theorem lineLR_lv {l : List Int} {mt : Nat → Nat} {base f t : Int} (hmt : MateFn (cl l) l.length mt) : lvF (fn (lineLR l mt base f t)) (lineLR l mt base f t).length = true := by
  obtain ⟨h1, h2⟩ := lineLR_ok (base := base) (f := f) (t := t) hmt
  rw [lvF_all (fun j hj => decide_eq_true (h2 j hj))]
  exact decide_eq_true h1
theorem ordR_line {l : List Int} {mt : Nat → Nat} {base f t : Int} (hmt : MateFn (cl l) l.length mt) : ordR (lineLR l mt base f t) = orderL (lineLR l mt base f t) := if_pos (lineLR_lv hmt)
/-- A place of a line's order: it is there, and so is its letter. -/
theorem seen_at {l : List Int} {mt : Nat → Nat} {base f t : Int} {k : Nat} (hk : k < (orderL (lineLR l mt base f t)).length) : ∃ p : Nat, fn (orderL (lineLR l mt base f t)) k = (p : Int) ∧ p < (lineLR l mt base f t).length ∧ f.toNat + p < l.length ∧ 0 ≤ f := by
  have hi := orderL_inn (lineLR l mt base f t) k hk
  refine ⟨(fn (orderL (lineLR l mt base f t)) k).toNat, by omega, by omega, ?_⟩
  by_cases h : okT l base = true ∧ 0 ≤ f ∧ f ≤ t ∧ t ≤ l.length
  · have hl : (lineLR l mt base f t).length = t.toNat - f.toNat := by rw [lineLR_yes h]; unfold lineLv; rw [llF_len]
    rw [hl] at hi
    omega
  · rw [lineLR_no h] at hi
    simp at hi
    omega
end Go.Proofs.YtgojdlbidjnmmaaGreat
namespace Go.Proofs.YtgojdlbidjnmmaaGreat
open Go.ChangeShapes Go.WideShapes Go.ChangeAt Go.RowKit Go.Deep
set_option linter.unusedSimpArgs false
set_option linter.unusedVariables false

set_option maxHeartbeats 2000000 in
theorem implEnds (r : Int) (w : World) (q : Bool) (hq : Hid (endB r = q)) : Calls Tryz.prog 47 #[.int .i64 r] w fun e w' => e = .returned (.bool q) ∧ Below w.heap.size w w' := by
  by_cases h : r = 10
  · subst h
    have HQ : Hid (true = q) := by unfold Hid; rw [← hq.out]; simp [endB]
    clear hq
    go_enter Tryz.func47, Tryz.ntmps47
    go_wp2_with fail
    go_ret
    exact ⟨retBool HQ.out, Below.refl _ _⟩
  · have hb : (r == 10) = false := by simpa using h
    obtain ⟨c, hc⟩ : ∃ c, bidi r = c := ⟨_, rfl⟩
    have HC : Hid _ := hc
    by_cases h2 : c = 11
    · subst h2
      have HQ : Hid (true = q) := by unfold Hid; rw [← hq.out]; simp [endB, hc]
      clear hq hc
      go_enter Tryz.func47, Tryz.ntmps47
      go_wp2_with (go_at_call 87; refine (implBidi _ _).mono ?_; rintro e w1 ⟨rfl, b1⟩; rw [HC.out])
      go_ret
      exact ⟨retBool HQ.out, b1⟩
    · have HQ : Hid (false = q) := by unfold Hid; rw [← hq.out]; simp [endB, hc, h, h2]
      have hb2 : (c == 11) = false := by simpa using h2
      clear hq hc
      go_enter Tryz.func47, Tryz.ntmps47
      go_wp2_with (go_at_call 87; refine (implBidi _ _).mono ?_; rintro e w1 ⟨rfl, b1⟩; rw [HC.out])
      go_ret
      exact ⟨retBool HQ.out, b1⟩
set_option maxHeartbeats 2000000 in
theorem implGoes (r : Int) (w : World) (q : Bool) (hq : Hid (goesB r = q)) : Calls Tryz.prog 48 #[.int .i64 r] w fun e w' => e = .returned (.bool q) ∧ Below w.heap.size w w' := by
  by_cases h : r = 32
  · subst h
    have HQ : Hid (true = q) := by unfold Hid; rw [← hq.out]; simp [goesB]
    clear hq
    go_enter Tryz.func48, Tryz.ntmps48
    go_wp2_with fail
    go_ret
    exact ⟨retBool HQ.out, Below.refl _ _⟩
  · have hb : (r == 32) = false := by simpa using h
    obtain ⟨c, hc⟩ : ∃ c, bidi r = c := ⟨_, rfl⟩
    have HC : Hid _ := hc
    by_cases h2 : 19 ≤ c
    · have HQ : Hid (true = q) := by unfold Hid; rw [← hq.out]; simp [goesB, hc, h2]
      clear hq hc
      go_enter Tryz.func48, Tryz.ntmps48
      go_wp2_with (go_at_call 87; refine (implBidi _ _).mono ?_; rintro e w1 ⟨rfl, b1⟩; rw [HC.out])
      go_ret
      exact ⟨retBool HQ.out, b1⟩
    · have HQ : Hid (false = q) := by unfold Hid; rw [← hq.out]; simp [goesB, hc, h, h2]
      clear hq hc
      go_enter Tryz.func48, Tryz.ntmps48
      go_wp2_with (go_at_call 87; refine (implBidi _ _).mono ?_; rintro e w1 ⟨rfl, b1⟩; rw [HC.out])
      go_ret
      exact ⟨retBool (by rw [← HQ.out]; simp; omega), b1⟩
set_option maxHeartbeats 2000000 in
theorem implThere (a : Option Addr) (n cap : Nat) (f t : Int) (w : World) (q : Bool) (hn : n ≤ 1048576) (hq : Hid (decide (0 ≤ f ∧ f ≤ t ∧ t ≤ n) = q)) : Calls Tryz.prog 46 #[.slice a n cap, .int .i64 f, .int .i64 t] w fun e w' => e = .returned (.bool q) ∧ w' = w := by
  by_cases h1 : 0 ≤ f
  · by_cases h2 : f ≤ t
    · by_cases h3 : t ≤ (n : Int)
      · have HQ : Hid (true = q) := by unfold Hid; rw [← hq.out]; simp [h1, h2, h3]
        clear hq
        go_enter Tryz.func46, Tryz.ntmps46
        go_wp2_with fail
        go_ret
        exact ⟨retBool HQ.out, rfl⟩
      · have HQ : Hid (false = q) := by unfold Hid; rw [← hq.out]; simp [h3]
        clear hq
        go_enter Tryz.func46, Tryz.ntmps46
        go_wp2_with fail
        go_ret
        exact ⟨retBool HQ.out, rfl⟩
    · have HQ : Hid (false = q) := by unfold Hid; rw [← hq.out]; simp [h2]
      clear hq
      go_enter Tryz.func46, Tryz.ntmps46
      go_wp2_with fail
      go_ret
      exact ⟨retBool HQ.out, rfl⟩
  · have HQ : Hid (false = q) := by unfold Hid; rw [← hq.out]; simp [h1]
    clear hq
    go_enter Tryz.func46, Tryz.ntmps46
    go_wp2_with fail
    go_ret
    exact ⟨retBool HQ.out, rfl⟩
set_option maxRecDepth 10000 in
set_option maxHeartbeats 8000000 in
theorem implLine (v : Value) (l : List Int) (mt : Nat → Nat) (base f t : Int) (w : World) (a : Option Addr) (cap : Nat) (hva : v = .slice a l.length cap) (hv : Arg w v l) (hl : l.length ≤ 1048576) (hmt : Hid (MateFn (cl l) l.length mt)) :
    Calls Tryz.prog 18 #[v, .int .i64 base, .int .i64 f, .int .i64 t] w fun e w' => (∃ v', e = .returned v' ∧ OwnI w' w.heap.size v' (lineLR l mt base f t)) ∧ Below w.heap.size w w' := by
  subst hva
  have HTH : Hid (∀ V q, decide (0 ≤ f ∧ f ≤ t ∧ t ≤ (l.length : Int)) = q → Calls Tryz.prog 46 #[.slice a l.length cap, .int .i64 f, .int .i64 t] V fun e w' => e = .returned (.bool q) ∧ w' = V) := fun V q h => implThere a l.length cap f t V q hl h
  by_cases hft : 0 ≤ f ∧ f ≤ t ∧ t ≤ (l.length : Int)
  · have HD : Hid (decide (0 ≤ f ∧ f ≤ t ∧ t ≤ (l.length : Int)) = true) := decide_eq_true hft
    have hLV := implLevels (.slice a l.length cap) l mt base w a cap rfl hv hl hmt
    have HLV : Hid _ := hLV
    obtain ⟨n, hn⟩ : ∃ n, l.length = n := ⟨_, rfl⟩
    have HN : Hid _ := hn
    obtain ⟨q, hq⟩ : ∃ q, okT l base = q := ⟨_, rfl⟩
    have HQ : Hid (okT l base = q) := hq
    by_cases hz : levsR l mt base = []
    · -- nothing is read
      have hR : lineLR l mt base f t = [] := by
        by_cases e : okT l base = true
        · have h2 : levsR l mt base = levsF l mt base := if_pos e
          have h3 := levsF_len l mt base
          rw [← h2, hz] at h3
          rw [lineLR_yes ⟨e, hft⟩]
          apply List.eq_nil_of_length_eq_zero
          unfold lineLv; rw [llF_len]
          have h4 := hft.2.2
          rw [← h3] at h4
          simp only [List.length_nil] at h4
          omega
        · exact lineLR_no (fun h => e h.1)
      have HR : Hid _ := hR
      have HZ : Hid _ := hz
      rw [hn] at HTH HD HLV ⊢
      clear hLV hR hz hv hmt hq hft hn
      go_enter Tryz.func18, Tryz.ntmps18
      go_wp2_with (go_at_call 46; refine (HTH.out _ true HD.out).mono ?_; rintro e w1 ⟨rfl, hw1⟩; rw [hw1]; clear hw1 w1)
      refine Calls.mono HLV.out ?_
      rintro e w2 ⟨⟨v2, rfl, o2⟩, b2⟩
      rw [HZ.out] at o2
      rcases o2.forms with ⟨rfl, _⟩ | ⟨g, c, rfl, _⟩
      · go_wp2_with fail
        go_ret
        exact ⟨⟨_, rfl, by rw [HR.out]; exact OwnI.nil _ _⟩, b2⟩
      · go_wp2_with fail
        go_ret
        exact ⟨⟨_, rfl, by rw [HR.out]; exact OwnI.nil _ _⟩, b2⟩
    · have e : okT l base = true := Decidable.byContradiction fun e => hz (by unfold levsR; rw [if_neg e])
      have hrl : levsR l mt base = levsF l mt base := if_pos e
      have hA3 := levsF_len l mt base
      have hok80 := (okT_out e).2.2
      have hlx := levTxt e hmt.out
      have hR := lineLR_yes (mt := mt) ⟨e, hft⟩
      obtain ⟨f0, hf0⟩ : ∃ f0, f.toNat = f0 := ⟨_, rfl⟩
      obtain ⟨m, hm⟩ : ∃ m, t.toNat - f.toNat = m := ⟨_, rfl⟩
      have hfe : f = (f0 : Int) := by omega
      have hte : t = ((f0 + m : Nat) : Int) := by omega
      have hfm : f0 + m ≤ n := by omega
      rw [hR]
      unfold lineLv
      rw [hm, hf0]
      rw [hrl] at HLV hz
      rw [hn] at hA3 hok80
      subst hfe hte
      obtain ⟨A, hA⟩ : ∃ A, levsF l mt base = A := ⟨_, rfl⟩
      rw [hA] at HLV hz hA3 ⊢
      have hnl : 0 < n := by rw [← hA3]; exact List.length_pos_iff.2 hz
      obtain ⟨bl, ol, e1, hbl, hat⟩ : ∃ bl ol, a = some ⟨bl, ol, none⟩ ∧ bl < w.heap.size ∧ At w bl ol l := by
        rcases hv with ⟨a0, cap0, e1, e2⟩ | ⟨b, off, cap', e1, hb, hlc, hcm, hat⟩
        · rw [e2] at hn; simp at hn; omega
        · simp only [Value.slice.injEq] at e1
          exact ⟨b, off, e1.1, hb, hat⟩
      subst e1
      have HAT : Hid (At w bl ol l) := hat
      have HA3 : Hid (A.length = n) := hA3
      obtain ⟨x, hx⟩ : ∃ x : Nat → Int, (fun j => fn l (f0 + j)) = x := ⟨_, rfl⟩
      obtain ⟨lev, hlev⟩ : ∃ lev : Nat → Int, (fun j => fn A (f0 + j)) = lev := ⟨_, rfl⟩
      have HX : Hid (∀ V, Below w.heap.size w V → ∀ j, j < m → V.cell? ⟨bl, ol + (f0 + j), none⟩ = some (.int .i64 (x j))) := fun V hV j hj => by
        rw [← hx]; exact (HAT.out.below hV hbl) (f0 + j) (by rw [HN.out]; omega)
      have HLEV : Hid (∀ j, lev j = fn A (f0 + j)) := fun j => by rw [← hlev]
      rw [hx, hlev]
      rw [hn] at HTH HD HLV ⊢
      clear hLV hz hv hmt hq hR hrl hA hx hlev hf0 hm hA3 hat hlx e hn hft
      by_cases hm0 : m = 0
      · subst hm0
        have hE : llF x lev 0 base = [] := List.eq_nil_of_length_eq_zero (llF_len _ _ _ _)
        rw [hE]
        clear hE
        go_enter Tryz.func18, Tryz.ntmps18
        go_wp2_with (go_at_call 46; refine (HTH.out _ true HD.out).mono ?_; rintro e w1 ⟨rfl, hw1⟩; rw [hw1]; clear hw1 w1)
        refine Calls.mono HLV.out ?_
        rintro e w2 ⟨⟨v2, rfl, o2⟩, b2⟩
        obtain ⟨g2, c2, e2, hc2⟩ := OwnI.form1 o2 (fun e => by have := HA3.out; rw [e] at this; simp at this; omega)
        rw [HA3.out] at e2 hc2
        subst e2
        have HB2 : Hid (Below w.heap.size w w2) := b2
        have hnb : ((n : Int) == 0) = false := by simp; omega
        have hsz2 := b2.size
        clear o2 b2
        go_wp2_with fail
        all_goals
          refine (clone_any _ [] _ (.inl ⟨_, _, rfl, rfl⟩) (by simp)).mono ?_
          rintro e w3 ⟨⟨v3, rfl, o3⟩, b3⟩
          have HB3 : Hid (Below w.heap.size w w3) := bstep HB2.out b3
          have O3 : Hid (OwnI w3 w.heap.size v3 []) := o3.mono hsz2
          rcases o3.forms with ⟨rfl, _⟩ | ⟨g3, c3, rfl, _⟩
          all_goals
            clear o3 b3
            go_wp2_with fail
            go_rounds 1
            go_ret
            exact ⟨⟨_, rfl, O3.out⟩, HB3.out⟩
      · have hmp : 0 < m := by omega
        have hLLl : ((A.drop f0).take m).length = m := by simp; have := HA3.out; omega
        have hLLf : ∀ j, j < m → lev j = fn ((A.drop f0).take m) j := fun j hj => by rw [HLEV.out, drop_take_fn hj (by have := HA3.out; omega)]
        have HP0 : Hid (llP x lev m base m = (A.drop f0).take m) := llP_start hLLl hLLf
        have HLL : Hid (((A.drop f0).take m).length = m ∧ ∀ j, j < m → lev j = fn ((A.drop f0).take m) j) := ⟨hLLl, hLLf⟩
        clear hLLl hLLf
        go_enter Tryz.func18, Tryz.ntmps18
        go_wp2_with (go_at_call 46; refine (HTH.out _ true HD.out).mono ?_; rintro e w1 ⟨rfl, hw1⟩; rw [hw1]; clear hw1 w1)
        refine Calls.mono HLV.out ?_
        rintro e w2 ⟨⟨v2, rfl, o2⟩, b2⟩
        obtain ⟨g2, c2, e2, hc2⟩ := OwnI.form1 o2 (fun e => by have := HA3.out; rw [e] at this; simp at this; omega)
        rw [HA3.out] at e2 hc2
        subst e2
        have O2 : Hid (OwnI w2 w.heap.size (.slice (some ⟨g2, 0, none⟩) n c2) A) := o2
        have HB2 : Hid (Below w.heap.size w w2) := b2
        have hg2 := (o2.lt g2 rfl).2
        have hnb : ((n : Int) == 0) = false := by simp; omega
        have hfc : f0 + m ≤ c2 := by omega
        have hcf : ¬ c2 = f0 := by omega
        have hsz2 := b2.size
        clear o2 b2
        go_wp2_with fail
        refine (clone_row g2 f0 m (c2 - f0) ((A.drop f0).take m) w2 HLL.out.1 (by omega) (fun j hj => ?_) hg2).mono ?_
        · have hjm : j < m := by rw [HLL.out.1] at hj; exact hj
          rw [← HLL.out.2 j hjm, HLEV.out]
          have := O2.out.cellN (f0 + j) (by have := HA3.out; omega)
          exact this
        rintro e w3 ⟨⟨v3, rfl, o3⟩, b3⟩
        obtain ⟨g3, c3, e3, hc3⟩ := OwnI.form1 o3 (fun e => by have := HLL.out.1; rw [e] at this; simp at this; omega)
        rw [HLL.out.1] at e3 hc3
        subst e3
        have O3 : Hid (OwnI w3 w2.heap.size (.slice (some ⟨g3, 0, none⟩) m c3) (llP x lev m base m)) := by unfold Hid; rw [HP0.out]; exact o3
        have HB3 : Hid (Below w.heap.size w w3) := bstep HB2.out b3
        clear o3 b3
        go_wp2_with fail
        go_loopw [11, 12] (fun e11 e12 wr => ∃ (k : Nat) (b0 : Bool), e11 = .bool b0 ∧ Hid (emT x lev m (m - k) = b0) ∧ e12 = .int .i64 ((k : Int) - 1) ∧ k ≤ m ∧ Hid (OwnI wr w2.heap.size (.slice (some ⟨g3, 0, none⟩) m c3) (llP x lev m base k)) ∧ Hid (Below w.heap.size w wr)) (fun _ e12 _ => (intOf e12 + 1).toNat)
        case atStart => exact ⟨m, true, rfl, by unfold Hid; rw [Nat.sub_self]; rfl, by first | rfl | (congr 1), Nat.le_refl _, O3.out, HB3.out⟩
        case round =>
          obtain ⟨k, b0, rfl, hem, rfl, hk, hO, hB⟩ := hrel
          rename World => wr
          cases k with
          | zero =>
            have e : ((0 : Nat) : Int) - 1 = -1 := rfl
            rw [e]
            clear e
            go_wp2_with fail
            go_ret
            exact ⟨⟨_, rfl, by rw [← llP_zero]; exact hO.out.mono hsz2⟩, hB.out⟩
          | succ p =>
            have e : ((p + 1 : Nat) : Int) - 1 = (p : Int) := by omega
            rw [e]
            clear e
            have hpm : p < m := by omega
            have hpi : (p : Int) < (m : Int) := by omega
            have c1 := hO.out.cellN p (by omega)
            have f1 : wr.frozen? ⟨g3, p, none⟩ = false := hO.out.frozenN p
            rw [fn_llP hpm, if_neg (by omega)] at c1
            have hst := emT_step (x := x) (lev := lev) hpm
            rw [hem.out] at hst
            obtain ⟨lv, hlv⟩ : ∃ lv, lev p = lv := ⟨_, rfl⟩
            have hla : llA x lev m base p = if 0 ≤ lev p ∧ emT x lev m (m - p) = true then base else lev p := rfl
            rw [hlv] at c1 hst hla
            by_cases hneg : lv < 0
            · have HNX : Hid (emT x lev m (m - p) = b0) := by unfold Hid; rw [hst, if_pos hneg]
              have HPK : Hid (llP x lev m base p = llP x lev m base (p + 1)) := llP_keep hpm (by rw [hla, if_neg (by omega), hlv])
              clear hst hla hem
              go_wp2_with fail
              go_roundw
              case rel => exact ⟨p, b0, rfl, HNX.out, by first | rfl | go_num, by omega, by rw [HPK.out]; exact hO.out, hB.out⟩
              case measure => simp only [intOf]; omega
            · rw [if_neg hneg] at hst
              have cx := HX.out wr hB.out p hpm
              obtain ⟨r, hr⟩ : ∃ r, x p = r := ⟨_, rfl⟩
              rw [hr] at cx hst
              obtain ⟨E, hE⟩ : ∃ E, endB r = E := ⟨_, rfl⟩
              obtain ⟨G, hG⟩ : ∃ G, goesB r = G := ⟨_, rfl⟩
              rw [hE, hG] at hst
              have HE : Hid _ := hE
              have HGO : Hid _ := hG
              have hfi : ((f0 : Int) + (p : Int)) < (n : Int) := by omega
              have HS1 : Hid (emT x lev m (m - p) = true → (llP x lev m base (p + 1)).set p base = llP x lev m base p) := fun h => llP_set hpm (by rw [hla, if_pos ⟨by omega, h⟩])
              have HS2 : Hid (emT x lev m (m - p) = false → llP x lev m base p = llP x lev m base (p + 1)) := fun h => llP_keep hpm (by rw [hla, if_neg (by rw [h]; simp), hlv])
              have HST : Hid (emT x lev m (m - p) = (E || b0 && G)) := hst
              clear hst hla hem hlv hE hG hr
              cases E
              · cases b0
                · have HNX : Hid (emT x lev m (m - p) = false) := by unfold Hid; rw [HST.out]; rfl
                  go_wp2_with (go_at_call 47; refine (implEnds _ _ false HE.out).mono ?_; rintro e w4 ⟨rfl, b4⟩; have HB4 : Hid (Below w.heap.size w w4) := bstep hB.out b4; have HO4 : Hid (OwnI w4 w2.heap.size (.slice (some ⟨g3, 0, none⟩) m c3) (llP x lev m base (p + 1))) := hO.out.below b4)
                  go_roundw
                  case rel => exact ⟨p, false, rfl, HNX.out, by first | rfl | go_num, by omega, by rw [HS2.out HNX.out]; exact HO4.out, HB4.out⟩
                  case measure => simp only [intOf]; omega
                · cases G
                  · have HNX : Hid (emT x lev m (m - p) = false) := by unfold Hid; rw [HST.out]; rfl
                    go_wp2_with (first | (go_at_call 47; refine (implEnds _ _ false HE.out).mono ?_; rintro e w4 ⟨rfl, b4⟩; have HB4 : Hid (Below w.heap.size w w4) := bstep hB.out b4; have HO4 : Hid (OwnI w4 w2.heap.size (.slice (some ⟨g3, 0, none⟩) m c3) (llP x lev m base (p + 1))) := hO.out.below b4) | (go_at_call 48; refine (implGoes _ _ false HGO.out).mono ?_; rintro e w5 ⟨rfl, b5⟩; have HB5 : Hid (Below w.heap.size w w5) := bstep HB4.out b5; have HO5 : Hid (OwnI w5 w2.heap.size (.slice (some ⟨g3, 0, none⟩) m c3) (llP x lev m base (p + 1))) := HO4.out.below b5))
                    go_roundw
                    case rel => exact ⟨p, false, rfl, HNX.out, by first | rfl | go_num, by omega, by rw [HS2.out HNX.out]; exact HO5.out, HB5.out⟩
                    case measure => simp only [intOf]; omega
                  · have HNX : Hid (emT x lev m (m - p) = true) := by unfold Hid; rw [HST.out]; rfl
                    go_wp2_with (first | (go_at_call 47; refine (implEnds _ _ false HE.out).mono ?_; rintro e w4 ⟨rfl, b4⟩; have HB4 : Hid (Below w.heap.size w w4) := bstep hB.out b4; have HO4 : Hid (OwnI w4 w2.heap.size (.slice (some ⟨g3, 0, none⟩) m c3) (llP x lev m base (p + 1))) := hO.out.below b4) | (go_at_call 48; refine (implGoes _ _ true HGO.out).mono ?_; rintro e w5 ⟨rfl, b5⟩; have HB5 : Hid (Below w.heap.size w w5) := bstep HB4.out b5; have HO5 : Hid (OwnI w5 w2.heap.size (.slice (some ⟨g3, 0, none⟩) m c3) (llP x lev m base (p + 1))) := HO4.out.below b5; have c5 := HO5.out.cellN p (by omega); have f5 : w5.frozen? ⟨g3, p, none⟩ = false := HO5.out.frozenN p))
                    go_roundw
                    case rel => exact ⟨p, true, rfl, HNX.out, by first | rfl | go_num, by omega, by rw [← HS1.out HNX.out]; exact HO5.out.storedN _ _, HB5.out.setCell (Nat.le_trans hsz2 (HO5.out.lt g3 rfl).1) _⟩
                    case measure => simp only [intOf]; omega
              · have HNX : Hid (emT x lev m (m - p) = true) := by unfold Hid; rw [HST.out]; rfl
                go_wp2_with (go_at_call 47; refine (implEnds _ _ true HE.out).mono ?_; rintro e w4 ⟨rfl, b4⟩; have HB4 : Hid (Below w.heap.size w w4) := bstep hB.out b4; have HO4 : Hid (OwnI w4 w2.heap.size (.slice (some ⟨g3, 0, none⟩) m c3) (llP x lev m base (p + 1))) := hO.out.below b4; have c4 := HO4.out.cellN p (by omega); have f4 : w4.frozen? ⟨g3, p, none⟩ = false := HO4.out.frozenN p)
                go_roundw
                case rel => exact ⟨p, true, rfl, HNX.out, by first | rfl | go_num, by omega, by rw [← HS1.out HNX.out]; exact HO4.out.storedN _ _, HB4.out.setCell (Nat.le_trans hsz2 (HO4.out.lt g3 rfl).1) _⟩
                case measure => simp only [intOf]; omega
  · have HD : Hid (decide (0 ≤ f ∧ f ≤ t ∧ t ≤ (l.length : Int)) = false) := decide_eq_false hft
    have hR := lineLR_no (mt := mt) (l := l) (base := base) (f := f) (t := t) (fun h => hft h.2)
    have HR : Hid _ := hR
    clear hR hft
    go_enter Tryz.func18, Tryz.ntmps18
    go_wp2_with (go_at_call 46; refine (HTH.out _ false HD.out).mono ?_; rintro e w1 ⟨rfl, hw1⟩; rw [hw1]; clear hw1 w1)
    go_ret
    exact ⟨⟨_, rfl, by rw [HR.out]; exact OwnI.nil _ _⟩, Below.refl _ _⟩
end Go.Proofs.YtgojdlbidjnmmaaGreat
namespace Go.Proofs.YtgojdlbidjnmmaaGreat
open Go.ChangeShapes Go.WideShapes Go.ChangeAt Go.RowKit Go.Deep
set_option linter.unusedSimpArgs false
set_option linter.unusedVariables false

set_option maxHeartbeats 1000000 in
theorem implOdd (v : Int) (w : World) (q : Bool) (hq : Hid ((Int.tmod v 2 != 0) = q)) : Calls Tryz.prog 84 #[.int .i64 v] w fun e w' => e = .returned (.bool q) ∧ w' = w := by
  go_enter Tryz.func84, Tryz.ntmps84
  go_wp2_with fail
  go_ret
  exact ⟨retBool hq.out, rfl⟩
set_option maxHeartbeats 1000000 in
theorem implSeenOn (r v : Int) (w : World) (h0 : 0 ≤ v) (x : Int) (hx : Hid (seenF r v = x)) : Calls Tryz.prog 40 #[.int .i64 r, .int .i64 v] w fun e w' => e = .returned (.int .i64 x) ∧ w' = w := by
  have ht : Int.tmod v 2 = v % 2 := Int.tmod_eq_emod_of_nonneg h0
  rcases Int.emod_two_eq v with hm | hm
  · have hm2 : Int.tmod v 2 = 0 := by omega
    have HX : Hid (x = r) := by unfold Hid; rw [← hx.out]; unfold seenF; rw [if_neg (by omega)]
    clear ht hm
    have HZ : Hid ((Int.tmod v 2 != 0) = false) := by unfold Hid; rw [hm2]; rfl
    clear hm2
    go_enter Tryz.func40, Tryz.ntmps40
    go_wp2_with (first | (go_at_call 84; refine (implOdd v _ false HZ.out).mono ?_; rintro e w2 ⟨rfl, hw2⟩; rw [hw2]; clear hw2 w2) | (go_at_call 23; refine (implMirror _ _).mono ?_; rintro e w1 ⟨rfl, hw1⟩; rw [hw1]; clear hw1 w1))
    go_ret
    exact ⟨retInt HX.out.symm, rfl⟩
  · have hm2 : Int.tmod v 2 = 1 := by omega
    have HX : Hid (x = mirror r) := by unfold Hid; rw [← hx.out]; unfold seenF; rw [if_pos hm]
    have HZ : Hid ((Int.tmod v 2 != 0) = true) := by unfold Hid; rw [hm2]; rfl
    clear ht hm hm2
    go_enter Tryz.func40, Tryz.ntmps40
    go_wp2_with (first | (go_at_call 84; refine (implOdd v _ true HZ.out).mono ?_; rintro e w2 ⟨rfl, hw2⟩; rw [hw2]; clear hw2 w2) | (go_at_call 23; refine (implMirror _ _).mono ?_; rintro e w1 ⟨rfl, hw1⟩; rw [hw1]; clear hw1 w1))
    go_ret
    exact ⟨retInt HX.out.symm, rfl⟩

set_option maxRecDepth 10000 in
set_option maxHeartbeats 8000000 in
theorem implSeen (v : Value) (l : List Int) (mt : Nat → Nat) (base f t : Int) (w : World) (a : Option Addr) (cap : Nat) (hva : v = .slice a l.length cap) (hv : Arg w v l) (hl : l.length ≤ 1048576) (hmt : Hid (MateFn (cl l) l.length mt)) :
    Calls Tryz.prog 15 #[v, .int .i64 base, .int .i64 f, .int .i64 t] w fun e w' => (∃ v', e = .returned v' ∧ OwnI w' w.heap.size v' (seenR l mt base f t)) ∧ Below w.heap.size w w' := by
  subst hva
  have hLN := implLine (.slice a l.length cap) l mt base f t w a cap rfl hv hl hmt
  have HLN : Hid _ := hLN
  have hOR := ordR_line (base := base) (f := f) (t := t) hmt.out
  have hok := lineLR_ok (base := base) (f := f) (t := t) hmt.out
  have hpt : ∀ k, k < (orderL (lineLR l mt base f t)).length → ∃ p : Nat, fn (orderL (lineLR l mt base f t)) k = (p : Int) ∧ p < (lineLR l mt base f t).length ∧ f.toNat + p < l.length ∧ 0 ≤ f ∧ 0 ≤ fn (lineLR l mt base f t) p := fun k hk => by
    obtain ⟨p, h1, h2, h3, h4⟩ := seen_at hk
    have h5 := ((orderL_ord (lineLR l mt base f t)).inn k hk).2.2
    rw [h1] at h5
    exact ⟨p, h1, h2, h3, h4, h5⟩
  unfold seenR
  have htk := fun k (hk : k < (orderL (lineLR l mt base f t)).length) => seenL_take (l := l) (f := f.toNat) hk
  have hsl := seenL_len l (lineLR l mt base f t) f.toNat
  have ho1 := ordR_len (lineLR l mt base f t)
  rw [hOR] at ho1
  obtain ⟨X, hX⟩ : ∃ X, lineLR l mt base f t = X := ⟨_, rfl⟩
  rw [hX] at HLN hOR hok hpt htk hsl ho1 ⊢
  obtain ⟨O, hO⟩ : ∃ O, orderL X = O := ⟨_, rfl⟩
  rw [hO] at hOR hpt htk hsl ho1
  obtain ⟨fz, hfz⟩ : ∃ fz, f.toNat = fz := ⟨_, rfl⟩
  rw [hfz] at hpt htk hsl ⊢
  obtain ⟨S, hS⟩ : ∃ S, seenL l X fz = S := ⟨_, rfl⟩
  rw [hS] at htk hsl ⊢
  obtain ⟨n, hn⟩ : ∃ n, l.length = n := ⟨_, rfl⟩
  obtain ⟨nx, hnx⟩ : ∃ nx, X.length = nx := ⟨_, rfl⟩
  obtain ⟨N, hN⟩ : ∃ N, O.length = N := ⟨_, rfl⟩
  rw [hn] at hpt HLN hl ⊢
  rw [hnx] at hpt hok
  rw [hN] at hpt htk hsl ho1
  have HOR : Hid (ordR X = O) := hOR
  have HPT : Hid _ := hpt
  have HTK : Hid _ := htk
  have HSL : Hid (S.length = N) := hsl
  have HN : Hid (l.length = n) := hn
  have HNX : Hid (X.length = nx) := hnx
  have HNO : Hid (O.length = N) := hN
  have HFZ : Hid (f.toNat = fz) := hfz
  have HV : Hid (Arg w (.slice a n cap) l) := by rw [← hn]; exact hv
  have hnx80 := hok.1
  have HX4 : Hid (X.length ≤ 4194304) := show X.length ≤ 4194304 by omega
  have HEMP : Hid (S.take 0 = []) := List.take_zero
  clear hLN hOR hok hpt htk hsl hX hO hfz hS hn hnx hN hv
  go_enter Tryz.func15, Tryz.ntmps15
  go_wp2_with fail
  refine Calls.mono HLN.out ?_
  rintro e w1 ⟨⟨v9, rfl, o9⟩, b1⟩
  go_wp2_with fail
  refine (implOrd v9 X _ o9.arg HX4.out).mono ?_
  rintro e w2 ⟨⟨v19, rfl, o19⟩, b2⟩
  rw [HOR.out] at o19
  have O9 : Hid (OwnI w2 w.heap.size v9 X) := o9.below b2
  have O19 : Hid (OwnI w2 w1.heap.size v19 O) := o19
  have HB2 : Hid (Below w.heap.size w w2) := bstep b1 b2
  have hsz2 := HB2.out.size
  obtain ⟨a19, c19, rfl⟩ : ∃ a19 c19, v19 = .slice a19 N c19 := by
    rcases o19.forms with ⟨rfl, e⟩ | ⟨g, c, rfl, _⟩
    · have := HNO.out; rw [e] at this; simp at this; subst this; exact ⟨_, _, rfl⟩
    · rw [HNO.out]; exact ⟨_, _, rfl⟩
  clear o9 o19 b1 b2
  go_wp2_with fail
  go_loopw [10, 21] (fun x10 x21 wr => ∃ (k : Nat) (vs : Value), x10 = vs ∧ x21 = .int .i64 k ∧ k ≤ N ∧ Hid (OwnI wr w2.heap.size vs (S.take k)) ∧ Hid (Below w2.heap.size w2 wr)) (fun _ x21 _ => N - (intOf x21).toNat)
  case atStart => exact ⟨0, _, rfl, rfl, Nat.zero_le _, by rw [HEMP.out]; exact OwnI.nil _ _, Below.refl _ _⟩
  case round =>
    obtain ⟨k, vs, e10, rfl, hk, hVS, hbx⟩ := hrel
    rename World => wx
    rw [e10]
    clear e10
    by_cases hkN : k < N
    · have hki : (k : Int) < (N : Int) := by omega
      obtain ⟨p, hp1, hp2, hp3, hf0, hp4⟩ := HPT.out k hkN
      have hfe : f = (fz : Int) := by have := HFZ.out; omega
      have htk := HTK.out k hkN
      rw [hp1] at htk
      simp only [Int.toNat_natCast] at htk
      rcases O19.out.forms with ⟨e, _⟩ | ⟨g19, c19', e, _, hg19, _, _, _⟩
      · simp only [Value.slice.injEq] at e; omega
      simp only [Value.slice.injEq] at e
      obtain ⟨rfl, -, rfl⟩ := e
      obtain ⟨g9, c9, e9, _⟩ := OwnI.form1 O9.out (fun e => by have := HNX.out; rw [e] at this; simp at this; omega)
      rw [HNX.out] at e9
      subst e9
      obtain ⟨bl, ol, e1, hbl, hat⟩ : ∃ bl ol, a = some ⟨bl, ol, none⟩ ∧ bl < w.heap.size ∧ At w bl ol l := by
        rcases HV.out with ⟨a0, cap0, e1, e2⟩ | ⟨b, off, cap', e1, hb, hlc, hcm, hat⟩
        · have := HN.out; rw [e2] at this; simp at this; omega
        · simp only [Value.slice.injEq] at e1
          exact ⟨b, off, e1.1, hb, hat⟩
      subst e1
      have x1 := (O19.out.below hbx.out).cellN k (by have := HNO.out; omega)
      have x2 := (O9.out.below hbx.out).cellN p (by have := HNX.out; omega)
      have x3 := (hat.below (HB2.out.trans (hbx.out.mono hsz2)) hbl) (fz + p) (by have := HN.out; omega)
      rw [hp1] at x1
      obtain ⟨r, hr⟩ : ∃ r, fn l (fz + p) = r := ⟨_, rfl⟩
      obtain ⟨lv, hlv⟩ : ∃ lv, fn X p = lv := ⟨_, rfl⟩
      rw [hr] at x3 htk
      rw [hlv] at x2 htk hp4
      obtain ⟨xv, hxv⟩ : ∃ xv, seenF r lv = xv := ⟨_, rfl⟩
      rw [hxv] at htk
      have HTK1 : Hid (S.take (k + 1) = S.take k ++ [xv]) := htk
      have HON : Hid (∀ V, Calls Tryz.prog 40 #[.int .i64 r, .int .i64 lv] V fun e w' => e = .returned (.int .i64 xv) ∧ w' = V) := fun V => implSeenOn r lv V hp4 xv hxv
      obtain ⟨q, hq⟩ : ∃ q, fz + p = q := ⟨_, rfl⟩
      rw [hq] at x3
      have hqi : (fz : Int) + (p : Int) = (q : Int) := by omega
      have hqn : (q : Int) < (n : Int) := by omega
      have hpi : (p : Int) < (nx : Int) := by omega
      have hwp : IntKind.i64.wrap (q : Int) = (q : Int) := by rw [IntKind.wrap_i64]; omega
      have hlcs : (S.take k).length + 1 ≤ 1048576 := by rw [List.length_take, HSL.out]; omega
      obtain ⟨lc, hlc⟩ : ∃ lc, S.take k = lc := ⟨_, rfl⟩
      rw [hlc] at hVS HTK1 hlcs
      have hsx := hbx.out.size
      have HOA : Hid (OwnI ((wx.drewN 1).alloc (.cells #[.int .i64 xv] 3)) w2.heap.size vs lc) := litO hVS.out
      have HLT : Hid (OwnI ((wx.drewN 1).alloc (.cells #[.int .i64 xv] 3)) wx.heap.size (.slice (some ⟨wx.heap.size, 0, none⟩) 1 1) [xv]) := litL wx
      have hsA : w2.heap.size ≤ ((wx.drewN 1).alloc (.cells #[.int .i64 xv] 3)).heap.size := by rw [litS]; omega
      have HBA : Hid (∀ V, ((wx.drewN 1).alloc (.cells #[.int .i64 xv] 3)).grownBy V vs.ownBlock → Below w2.heap.size w2 V) := fun V hV => (litB hbx.out).grown hV (litB hbx.out).size (fun b hb => (hVS.out.lt b hb).1)
      clear htk hp1 hat hr hlv hxv hlc hq
      subst hfe
      go_upto_region 6 with fail
      go_region_law (first
        | (refine step_appendR (B := w2.heap.size) (.tmp 25) (.tmp 37) Tryz.underlying23 (show OwnI _ _ _ _ from HOA.out) (show OwnI _ _ _ _ from HLT.out) (by omega) hlcs hsA rfl rfl rfl rfl ?_; intro g7 c7 w7 o7 g7' n7; have O7 : Hid (OwnI w7 w2.heap.size (.slice (some ⟨g7, 0, none⟩) (lc.length + 1) c7) (lc ++ [xv])) := o7; have HB7 : Hid (Below w2.heap.size w2 w7) := HBA.out w7 ⟨g7'.os, g7'.tape, g7'.output, g7'.size, g7'.block⟩; clear o7 g7' n7)
        | (go_simp; go_at_call 40; refine (HON.out _).mono ?_; rintro e w6 ⟨rfl, hw6⟩; rw [hw6]; clear hw6 w6))
      all_goals
        go_wp2_with fail
        go_roundw
        case rel => exact ⟨k + 1, _, rfl, by go_num, by omega, by rw [HTK1.out]; exact O7.out, HB7.out⟩
        case measure => simp only [intOf]; omega
    · have e : k = N := by omega
      subst e
      rw [List.take_of_length_le (by rw [HSL.out]; exact Nat.le_refl _)] at hVS
      go_wp2_with fail
      go_ret
      exact ⟨⟨_, rfl, hVS.out.mono hsz2⟩, HB2.out.trans (hbx.out.mono hsz2)⟩
end Go.Proofs.YtgojdlbidjnmmaaGreat
namespace Go.Proofs.YtgojdlbidjnmmaaGreat
open Go.ChangeShapes Go.WideShapes Go.ChangeAt Go.RowKit Go.Deep
set_option linter.unusedSimpArgs false
set_option linter.unusedVariables false

def emptyB (r : Int) : Bool := decide (bidi r = 12 ∨ 19 ≤ bidi r ∨ bidi r = 10 ∨ (14 ≤ bidi r ∧ bidi r ≤ 18))
theorem bidi_nl : bidi 10 = 13 := by decide
theorem empty_tells {r : Int} (h : tellsB (bidi r) = true) : emptyB r = true ∧ endB r = false := by
  unfold tellsB at h
  have h := of_decide_eq_true h
  unfold emptyB endB
  constructor
  · exact decide_eq_true (by omega)
  · refine decide_eq_false (fun e => ?_)
    rcases e with e | e
    · subst e; rw [bidi_nl] at h; omega
    · omega
theorem empty_not {r : Int} (h : tellsB (bidi r) = false) : emptyB r = goesB r := by
  unfold tellsB at h
  have h := of_decide_eq_false h
  have h12 := bidi_12 r
  unfold emptyB goesB
  by_cases e : r = 32 ∨ 19 ≤ bidi r
  · rw [decide_eq_true e]
    refine decide_eq_true ?_
    rcases e with e | e
    · exact .inl (h12.2 e)
    · exact .inr (.inl e)
  · rw [decide_eq_false e]
    refine decide_eq_false (fun e2 => ?_)
    rcases e2 with e2 | e2
    · exact e (.inl (h12.1 e2))
    · omega
set_option maxHeartbeats 2000000 in
theorem specEmpty (r : Int) (w : World) (q : Bool) (hq : Hid (emptyB r = q)) : Calls Tryz.prog 88 #[.int .i64 r] w fun e w' => e = .returned (.bool q) ∧ Below w.heap.size w w' := by
  obtain ⟨c, hc⟩ : ∃ c, bidi r = c := ⟨_, rfl⟩
  have HC : Hid _ := hc
  have HQ0 : Hid (decide (c = 12 ∨ 19 ≤ c ∨ c = 10 ∨ (14 ≤ c ∧ c ≤ 18)) = q) := by unfold Hid; rw [← hc]; exact hq.out
  clear hq hc
  by_cases h1 : c = 12
  · have HQ : Hid (true = q) := by unfold Hid; rw [← HQ0.out]; simp [h1]
    subst h1
    go_enter Tryz.func88, Tryz.ntmps88
    go_wp2_with (go_at_call 10; refine (specBidi _ _).mono ?_; rintro e w1 ⟨rfl, b1⟩; rw [HC.out])
    go_ret
    exact ⟨retBool HQ.out, b1⟩
  · have hb1 : (c == 12) = false := by simpa using h1
    by_cases h2 : 19 ≤ c
    · have HQ : Hid (true = q) := by unfold Hid; rw [← HQ0.out]; simp [h2]
      go_enter Tryz.func88, Tryz.ntmps88
      go_wp2_with (go_at_call 10; refine (specBidi _ _).mono ?_; rintro e w1 ⟨rfl, b1⟩; rw [HC.out])
      go_ret
      exact ⟨retBool HQ.out, b1⟩
    · by_cases h3 : c = 10
      · have HQ : Hid (true = q) := by unfold Hid; rw [← HQ0.out]; simp [h3]
        subst h3
        go_enter Tryz.func88, Tryz.ntmps88
        go_wp2_with (go_at_call 10; refine (specBidi _ _).mono ?_; rintro e w1 ⟨rfl, b1⟩; rw [HC.out])
        go_ret
        exact ⟨retBool HQ.out, b1⟩
      · have hb3 : (c == 10) = false := by simpa using h3
        have HQ : Hid (inB c 14 18 = q) := by unfold Hid; rw [← HQ0.out]; unfold inB; simp [h1, h2, h3]
        go_enter Tryz.func88, Tryz.ntmps88
        go_wp2_with (first | (go_at_call 10; refine (specBidi _ _).mono ?_; rintro e w1 ⟨rfl, b1⟩; rw [HC.out]) | (go_at_call 29; refine (specIn _ _ _ _).mono ?_; rintro e w2 ⟨rfl, hw2⟩; rw [HQ.out, hw2]; clear hw2 w2))
        go_ret
        exact ⟨retBool (by rw [decide_eq_false (by omega : ¬ (19 : Int) ≤ c)]; rfl), b1⟩

set_option maxRecDepth 10000 in
set_option maxHeartbeats 4000000 in
theorem specLine0 (bl : Option Addr) (gl n c1 c2 f0 : Nat) (base : Int) (w : World) (h1 : f0 ≤ n) (h2 : n ≤ c2) (h3 : n ≤ 80) :
    Calls Tryz.prog 49 #[.slice bl n c1, .slice (some ⟨gl, 0, none⟩) n c2, .int .i64 base, .int .i64 (f0 : Int), .int .i64 (f0 : Int)] w fun e w' => (∃ v', e = .returned v' ∧ OwnI w' w.heap.size v' []) ∧ Below w.heap.size w w' := by
  have hbe : Below w.heap.size w (w.alloc (.cells #[] 3)) := (Below.refl _ _).alloc (Nat.le_refl _) _
  have hat2 : ∀ off, At (w.alloc (.cells #[] 3)) gl off [] := fun off j hj => by simp at hj
  have ho := own_empty w w.heap.size 3 (Nat.le_refl _) rfl
  have hf1 : f0 ≤ c2 := by omega
  by_cases hcf : c2 = f0
  · subst hcf
    go_enter Tryz.func49, Tryz.ntmps49
    go_wp2_with (at_builtin; refine own_appendAll (c := 0) (.tmp 15) (.tmp 19) ho (m := []) rfl (by simp) (by simp) (hat2 0) rfl rfl rfl rfl ?_; intro v4 w4 o4 gr4; have O4 : Hid (OwnI w4 w.heap.size v4 []) := o4; have HB4 : Hid (Below w.heap.size w w4) := hbe.grown gr4 (by simp) (fun k hk => by simp [Value.ownBlock] at hk; omega); clear o4 gr4)
    go_rounds 1
    go_ret
    exact ⟨⟨_, rfl, O4.out⟩, HB4.out⟩
  · go_enter Tryz.func49, Tryz.ntmps49
    go_wp2_with (at_builtin; refine own_appendAll (c := c2 - f0) (.tmp 15) (.tmp 19) ho (m := []) rfl (by simp) (by simp) (hat2 f0) rfl rfl rfl rfl ?_; intro v4 w4 o4 gr4; have O4 : Hid (OwnI w4 w.heap.size v4 []) := o4; have HB4 : Hid (Below w.heap.size w w4) := hbe.grown gr4 (by simp) (fun k hk => by simp [Value.ownBlock] at hk; omega); clear o4 gr4)
    go_rounds 1
    go_ret
    exact ⟨⟨_, rfl, O4.out⟩, HB4.out⟩
set_option maxRecDepth 10000 in
set_option maxHeartbeats 4000000 in
theorem specLineN (bl : Option Addr) (c1 : Nat) (base : Int) (w : World) :
    Calls Tryz.prog 49 #[.slice bl 0 c1, .slice none 0 0, .int .i64 base, .int .i64 0, .int .i64 0] w fun e w' => (∃ v', e = .returned v' ∧ OwnI w' w.heap.size v' []) ∧ Below w.heap.size w w' := by
  have hbe : Below w.heap.size w (w.alloc (.cells #[] 3)) := (Below.refl _ _).alloc (Nat.le_refl _) _
  have ho := own_empty w w.heap.size 3 (Nat.le_refl _) rfl
  have HO : Hid _ := ho
  have HBE : Hid _ := hbe
  clear ho hbe
  go_enter Tryz.func49, Tryz.ntmps49
  go_wp2_with (at_builtin; refine own_appendOwn (.tmp 15) (.tmp 19) HO.out (OwnI.nil _ 0) (by simp) (by simp) rfl rfl rfl rfl ?_; intro v4 w4 o4 gr4; have O4 : Hid (OwnI w4 w.heap.size v4 []) := o4; have HB4 : Hid (Below w.heap.size w w4) := HBE.out.grown gr4 (by simp) (fun k hk => by simp [Value.ownBlock] at hk; omega); clear o4 gr4)
  go_rounds 1
  go_ret
  exact ⟨⟨_, rfl, O4.out⟩, HB4.out⟩

set_option maxRecDepth 10000 in
set_option maxHeartbeats 8000000 in
theorem specLine1 (bl ol cap gl c2 n f0 m : Nat) (l A : List Int) (base : Int) (x lev : Nat → Int) (w : World) (hln : l.length = n) (hA : A.length = n) (hfm : f0 + m ≤ n) (hmp : 0 < m) (h80 : n ≤ 80) (hbl : bl < w.heap.size) (hgl : gl < w.heap.size) (hat : At w bl ol l) (hatA : At w gl 0 A) (hc : n ≤ c2)
    (HXL : Hid (∀ j, j < m → x j = fn l (f0 + j) ∧ lev j = fn A (f0 + j))) (HT : Hid (∀ j, j < m → (lev j < 0 → tellsB (bidi (x j)) = true) ∧ (0 ≤ lev j → tellsB (bidi (x j)) = false))) :
    Calls Tryz.prog 49 #[.slice (some ⟨bl, ol, none⟩) n cap, .slice (some ⟨gl, 0, none⟩) n c2, .int .i64 base, .int .i64 (f0 : Int), .int .i64 ((f0 + m : Nat) : Int)] w fun e w' => (∃ v', e = .returned v' ∧ OwnI w' w.heap.size v' (llF x lev m base)) ∧ Below w.heap.size w w' := by
  have hLLl : ((A.drop f0).take m).length = m := by simp; omega
  have hLLf : ∀ j, j < m → lev j = fn ((A.drop f0).take m) j := fun j hj => by rw [(HXL.out j hj).2, drop_take_fn hj (by omega)]
  have HP0 : Hid (llP x lev m base m = (A.drop f0).take m) := llP_start hLLl hLLf
  have HLL : Hid (((A.drop f0).take m).length = m) := hLLl
  have HX : Hid (∀ V, Below w.heap.size w V → ∀ j, j < m → V.cell? ⟨bl, ol + (f0 + j), none⟩ = some (.int .i64 (x j))) := fun V hV j hj => by
    rw [(HXL.out j hj).1]; exact (hat.below hV hbl) (f0 + j) (by omega)
  have hbe : Below w.heap.size w (w.alloc (.cells #[] 3)) := (Below.refl _ _).alloc (Nat.le_refl _) _
  have hat2 : At (w.alloc (.cells #[] 3)) gl f0 ((A.drop f0).take m) := fun j hj => by
    rw [hLLl] at hj
    rw [← hLLf j hj, (HXL.out j hj).2]
    have := (hatA.below hbe hgl) (f0 + j) (by omega)
    rwa [Nat.zero_add] at this
  have ho := own_empty w w.heap.size 3 (Nat.le_refl _) rfl
  have HHC : Hid (f0 + m ≤ c2) := show f0 + m ≤ c2 by omega
  have hcf : ¬ c2 = f0 := by omega
  have hcf2 : f0 + m ≤ c2 := by omega
  clear hLLl hLLf hat hatA hA hln
  go_enter Tryz.func49, Tryz.ntmps49
  go_wp2_with (at_builtin; refine own_appendAll (.tmp 15) (.tmp 19) ho HLL.out (by simp; omega) (by simp) hat2 rfl rfl rfl (show Value.slice (some ⟨gl, f0, none⟩) (f0 + m - f0) (c2 - f0) = _ from by rw [Nat.add_sub_cancel_left]) ?_; intro v4 w4 o4 gr4; have tok : True := trivial)
  have b4 : Below w.heap.size w w4 := by
    refine hbe.grown gr4 (by simp) (fun k hk => ?_)
    simp [Value.ownBlock] at hk
    omega
  simp only [List.nil_append] at o4
  obtain ⟨g3, c3, e3, hc3⟩ := OwnI.form1 o4 (fun e => by have := HLL.out; rw [e] at this; simp at this; omega)
  rw [HLL.out] at e3 hc3
  subst e3
  have O3 : Hid (OwnI w4 w.heap.size (.slice (some ⟨g3, 0, none⟩) m c3) (llP x lev m base m)) := by unfold Hid; rw [HP0.out]; exact o4
  have HB3 : Hid (Below w.heap.size w w4) := b4
  clear o4 b4 gr4 ho hbe hat2 tok
  go_wp2_with fail
  go_loopw [12, 13] (fun e11 e12 wr => ∃ (k : Nat) (b0 : Bool), e11 = .bool b0 ∧ Hid (emT x lev m (m - k) = b0) ∧ e12 = .int .i64 ((f0 : Int) + (k : Int) - 1) ∧ k ≤ m ∧ Hid (OwnI wr w.heap.size (.slice (some ⟨g3, 0, none⟩) m c3) (llP x lev m base k)) ∧ Hid (Below w.heap.size w wr)) (fun _ e12 _ => (intOf e12 + 1 - f0).toNat)
  case atStart => exact ⟨m, true, rfl, by unfold Hid; rw [Nat.sub_self]; rfl, by first | rfl | (congr 1), Nat.le_refl _, O3.out, HB3.out⟩
  case round =>
    obtain ⟨k, b0, rfl, hem, rfl, hk, hO, hB⟩ := hrel
    rename World => wr
    cases k with
    | zero =>
      have e : (f0 : Int) + ((0 : Nat) : Int) - 1 = (f0 : Int) - 1 := by omega
      rw [e]
      clear e
      go_wp2_with fail
      go_ret
      exact ⟨⟨_, rfl, by rw [← llP_zero]; exact hO.out⟩, hB.out⟩
    | succ p =>
      have e : (f0 : Int) + ((p + 1 : Nat) : Int) - 1 = (f0 : Int) + (p : Int) := by omega
      rw [e]
      clear e
      have hpm : p < m := by omega
      have hpi : (p : Int) < (m : Int) := by omega
      have hwp : IntKind.i64.wrap (p : Int) = (p : Int) := by rw [IntKind.wrap_i64]; omega
      have c1 := hO.out.cellN p (by omega)
      have f1 : wr.frozen? ⟨g3, p, none⟩ = false := hO.out.frozenN p
      rw [fn_llP hpm, if_neg (by omega)] at c1
      have hst := emT_step (x := x) (lev := lev) hpm
      rw [hem.out] at hst
      obtain ⟨lv, hlv⟩ : ∃ lv, lev p = lv := ⟨_, rfl⟩
      have hla : llA x lev m base p = if 0 ≤ lev p ∧ emT x lev m (m - p) = true then base else lev p := rfl
      have hT := HT.out p hpm
      rw [hlv] at c1 hst hla hT
      have cx := HX.out wr hB.out p hpm
      obtain ⟨r, hr⟩ : ∃ r, x p = r := ⟨_, rfl⟩
      rw [hr] at cx hst hT
      have hfi : ((f0 : Int) + (p : Int)) < (n : Int) := by omega
      obtain ⟨c, hcc⟩ : ∃ c, bidi r = c := ⟨_, rfl⟩
      have HC : Hid _ := hcc
      obtain ⟨M, hM⟩ : ∃ M, emptyB r = M := ⟨_, rfl⟩
      have HM : Hid (emptyB r = M) := hM
      -- what the place becomes
      have HS1 : Hid (0 ≤ lv → emT x lev m (m - p) = true → (llP x lev m base (p + 1)).set p base = llP x lev m base p) := fun h0 h => llP_set hpm (by rw [hla, if_pos ⟨h0, h⟩])
      have HS2 : Hid (emT x lev m (m - p) = false ∨ lv < 0 → llP x lev m base p = llP x lev m base (p + 1)) := fun h => llP_keep hpm (by
        rw [hla, hlv]
        rcases h with h | h
        · rw [if_neg (by rw [h]; simp)]
        · rw [if_neg (by omega)])
      by_cases hE : endB r = true
      · have hl0 : 0 ≤ lv := by
          rcases Int.lt_or_le lv 0 with q | q
          · have := (empty_tells (hT.1 q)).2; rw [this] at hE; cases hE
          · exact q
        rw [if_neg (by omega), hE] at hst
        have HNX : Hid (emT x lev m (m - p) = true) := by unfold Hid; rw [hst]; rfl
        have hE2 : r = 10 ∨ bidi r = 11 := of_decide_eq_true hE
        rw [hcc] at hE2
        by_cases h11 : c = 11
        · subst h11
          clear hst hla hem hlv hT hM hcc hE hE2 hr
          go_wp2_with (go_at_call 10; refine (specBidi _ _).mono ?_; rintro e w5 ⟨rfl, b5⟩; rw [HC.out]; have HB5 : Hid (Below w.heap.size w w5) := bstep hB.out b5; have HO5 : Hid (OwnI w5 w.heap.size (.slice (some ⟨g3, 0, none⟩) m c3) (llP x lev m base (p + 1))) := hO.out.below b5; have c5 := HO5.out.cellN p (by omega); have f5 : w5.frozen? ⟨g3, p, none⟩ = false := HO5.out.frozenN p)
          go_roundw
          case rel => exact ⟨p, true, rfl, HNX.out, by first | rfl | go_num, by omega, by rw [← HS1.out hl0 HNX.out]; exact HO5.out.storedN _ _, HB5.out.setCell (HO5.out.lt g3 rfl).1 _⟩
          case measure => simp only [intOf]; omega
        · have h10 : r = 10 := by omega
          have hb11 : (c == 11) = false := by simpa using h11
          subst h10
          clear hst hla hem hlv hT hM hcc hE hE2 hr
          go_wp2_with (go_at_call 10; refine (specBidi _ _).mono ?_; rintro e w5 ⟨rfl, b5⟩; rw [HC.out]; have HB5 : Hid (Below w.heap.size w w5) := bstep hB.out b5; have HO5 : Hid (OwnI w5 w.heap.size (.slice (some ⟨g3, 0, none⟩) m c3) (llP x lev m base (p + 1))) := hO.out.below b5; have c5 := HO5.out.cellN p (by omega); have f5 : w5.frozen? ⟨g3, p, none⟩ = false := HO5.out.frozenN p)
          go_roundw
          case rel => exact ⟨p, true, rfl, HNX.out, by first | rfl | go_num, by omega, by rw [← HS1.out hl0 HNX.out]; exact HO5.out.storedN _ _, HB5.out.setCell (HO5.out.lt g3 rfl).1 _⟩
          case measure => simp only [intOf]; omega
      · have hE0 : endB r = false := by simpa using hE
        have hE2 : ¬ (r = 10 ∨ bidi r = 11) := of_decide_eq_false hE0
        rw [hcc] at hE2
        have hb11 : (c == 11) = false := by simp; omega
        have hb10 : (r == 10) = false := by simp; omega
        rw [hE0] at hst
        cases b0
        · have HNX : Hid (emT x lev m (m - p) = false) := by
            unfold Hid; rw [hst]; by_cases q : lv < 0
            · rw [if_pos q]
            · rw [if_neg q]; rfl
          clear hst hla hem hlv hT hM hcc hE hE0 hE2 hr
          go_wp2_with (go_at_call 10; refine (specBidi _ _).mono ?_; rintro e w5 ⟨rfl, b5⟩; rw [HC.out]; have HB5 : Hid (Below w.heap.size w w5) := bstep hB.out b5; have HO5 : Hid (OwnI w5 w.heap.size (.slice (some ⟨g3, 0, none⟩) m c3) (llP x lev m base (p + 1))) := hO.out.below b5)
          go_roundw
          case rel => exact ⟨p, false, rfl, HNX.out, by first | rfl | go_num, by omega, by rw [HS2.out (.inl HNX.out)]; exact HO5.out, HB5.out⟩
          case measure => simp only [intOf]; omega
        · cases M
          · have hl0 : 0 ≤ lv := by
              rcases Int.lt_or_le lv 0 with q | q
              · have := (empty_tells (hT.1 q)).1; rw [hM] at this; cases this
              · exact q
            have hG : goesB r = false := by rw [← empty_not (hT.2 hl0)]; exact hM
            have HNX : Hid (emT x lev m (m - p) = false) := by unfold Hid; rw [hst, if_neg (by omega), hG]; rfl
            clear hst hla hem hlv hT hM hcc hE hE0 hE2 hr hG
            go_wp2_with (first | (go_at_call 10; refine (specBidi _ _).mono ?_; rintro e w5 ⟨rfl, b5⟩; rw [HC.out]; have HB5 : Hid (Below w.heap.size w w5) := bstep hB.out b5; have HO5 : Hid (OwnI w5 w.heap.size (.slice (some ⟨g3, 0, none⟩) m c3) (llP x lev m base (p + 1))) := hO.out.below b5) | (go_at_call 88; refine (specEmpty _ _ false HM.out).mono ?_; rintro e w6 ⟨rfl, b6⟩; have HB6 : Hid (Below w.heap.size w w6) := bstep HB5.out b6; have HO6 : Hid (OwnI w6 w.heap.size (.slice (some ⟨g3, 0, none⟩) m c3) (llP x lev m base (p + 1))) := HO5.out.below b6))
            go_roundw
            case rel => exact ⟨p, false, rfl, HNX.out, by first | rfl | go_num, by omega, by rw [HS2.out (.inl HNX.out)]; exact HO6.out, HB6.out⟩
            case measure => simp only [intOf]; omega
          · by_cases hneg : lv < 0
            · have HNX : Hid (emT x lev m (m - p) = true) := by unfold Hid; rw [hst, if_pos hneg]
              have HFN : Hid (fn (llP x lev m base (p + 1)) p = lv) := by unfold Hid; rw [fn_llP hpm, if_neg (by omega), hlv]
              clear hst hla hem hlv hT hM hcc hE hE0 hE2 hr
              go_wp2_with (first | (go_at_call 10; refine (specBidi _ _).mono ?_; rintro e w5 ⟨rfl, b5⟩; rw [HC.out]; have HB5 : Hid (Below w.heap.size w w5) := bstep hB.out b5; have HO5 : Hid (OwnI w5 w.heap.size (.slice (some ⟨g3, 0, none⟩) m c3) (llP x lev m base (p + 1))) := hO.out.below b5) | (go_at_call 88; refine (specEmpty _ _ true HM.out).mono ?_; rintro e w6 ⟨rfl, b6⟩; have HB6 : Hid (Below w.heap.size w w6) := bstep HB5.out b6; have HO6 : Hid (OwnI w6 w.heap.size (.slice (some ⟨g3, 0, none⟩) m c3) (llP x lev m base (p + 1))) := HO5.out.below b6; have c6 := HO6.out.cellN p (by omega); rw [HFN.out] at c6))
              go_roundw
              case rel => exact ⟨p, true, rfl, HNX.out, by first | rfl | go_num, by omega, by rw [HS2.out (.inr hneg)]; exact HO6.out, HB6.out⟩
              case measure => simp only [intOf]; omega
            · have hl0 : 0 ≤ lv := by omega
              have hG : goesB r = true := by rw [← empty_not (hT.2 hl0)]; exact hM
              have HNX : Hid (emT x lev m (m - p) = true) := by unfold Hid; rw [hst, if_neg hneg, hG]; rfl
              have HFN : Hid (fn (llP x lev m base (p + 1)) p = lv) := by unfold Hid; rw [fn_llP hpm, if_neg (by omega), hlv]
              clear hst hla hem hlv hT hM hcc hE hE0 hE2 hr hG
              go_wp2_with (first | (go_at_call 10; refine (specBidi _ _).mono ?_; rintro e w5 ⟨rfl, b5⟩; rw [HC.out]; have HB5 : Hid (Below w.heap.size w w5) := bstep hB.out b5; have HO5 : Hid (OwnI w5 w.heap.size (.slice (some ⟨g3, 0, none⟩) m c3) (llP x lev m base (p + 1))) := hO.out.below b5) | (go_at_call 88; refine (specEmpty _ _ true HM.out).mono ?_; rintro e w6 ⟨rfl, b6⟩; have HB6 : Hid (Below w.heap.size w w6) := bstep HB5.out b6; have HO6 : Hid (OwnI w6 w.heap.size (.slice (some ⟨g3, 0, none⟩) m c3) (llP x lev m base (p + 1))) := HO5.out.below b6; have c6 := HO6.out.cellN p (by omega); rw [HFN.out] at c6; have f6 : w6.frozen? ⟨g3, p, none⟩ = false := HO6.out.frozenN p))
              go_roundw
              case rel => exact ⟨p, true, rfl, HNX.out, by first | rfl | go_num, by omega, by rw [← HS1.out hl0 HNX.out]; exact HO6.out.storedN _ _, HB6.out.setCell (HO6.out.lt g3 rfl).1 _⟩
              case measure => simp only [intOf]; omega

/-- What is told of the classes by the levels. -/
theorem levF_tells {l : List Int} {mt : Nat → Nat} {base : Int} {n : Nat} (h : LevTxt l mt base n) {j : Nat} (hj : j < n) : (fn (levsF l mt base) j < 0 → tellsB (cl l j) = true) ∧ (0 ≤ fn (levsF l mt base) j → tellsB (cl l j) = false) := by
  have hb := lvAt_bd (cl l) (fsF (cl l) mt) h.b01 j
  rw [← fn_lvL (n := n) hj] at hb
  by_cases hs : 0 ≤ fn (lvL (cl l) (fsF (cl l) mt) base n) j
  · obtain ⟨r, k, hk, _, _, e, _⟩ := levF_at h hj hs
    have hm := moreF_bd (fn (lvL (cl l) (fsF (cl l) mt) base n) j) (fn (runL (cl l) l (lvL (cl l) (fsF (cl l) mt) base n) (clL (cl l) (fsF (cl l) mt) base n) n mt base r) k)
    have h0 : 0 ≤ fn (levsF l mt base) j := by omega
    refine ⟨fun q => by omega, fun _ => ?_⟩
    rcases hb with ⟨_, q⟩ | ⟨q, _⟩
    · omega
    · exact q
  · have e := levF_no h hj (by omega)
    refine ⟨fun _ => ?_, fun q => by omega⟩
    rcases hb with ⟨q, _⟩ | ⟨_, q, _⟩
    · exact q
    · have := h.b01.1; omega

set_option maxRecDepth 10000 in
set_option maxHeartbeats 8000000 in
theorem specLine (v : Value) (l : List Int) (mt : Nat → Nat) (base f t : Int) (w : World) (a : Option Addr) (cap : Nat) (hva : v = .slice a l.length cap) (hv : Arg w v l) (hl : l.length ≤ 1048576) (hmt : Hid (MateFn (cl l) l.length mt)) :
    Calls Tryz.prog 19 #[v, .int .i64 base, .int .i64 f, .int .i64 t] w fun e w' => (∃ v', e = .returned v' ∧ OwnI w' w.heap.size v' (lineLR l mt base f t)) ∧ Below w.heap.size w w' := by
  subst hva
  have hl4 : l.length ≤ 4194304 := by omega
  have HV : Hid (Arg w (.slice a l.length cap) l) := hv
  have ho := own_empty w w.heap.size 3 (Nat.le_refl _) rfl
  have HO : Hid _ := ho
  have HB0 : Hid (Below w.heap.size w (w.alloc (.cells #[] 3))) := (Below.refl _ _).alloc (Nat.le_refl _) _
  by_cases hq : okT l base = true
  · have HQ : Hid (okT l base = true) := hq
    by_cases h1 : 0 ≤ f ∧ f ≤ l.length
    · have H1 : Hid (inB f 0 (l.length : Int) = true) := decide_eq_true h1
      by_cases h2 : f ≤ t ∧ t ≤ l.length
      · have H2 : Hid (inB t f (l.length : Int) = true) := decide_eq_true h2
        have hR := lineLR_yes (mt := mt) (l := l) (base := base) (f := f) (t := t) ⟨hq, h1.1, h2.1, h2.2⟩
        have hlx := levTxt hq hmt.out
        obtain ⟨hok, hb01, h80⟩ := okT_out hq
        have hA3 := levsF_len l mt base
        obtain ⟨f0, hf0⟩ : ∃ f0, f.toNat = f0 := ⟨_, rfl⟩
        obtain ⟨m, hm⟩ : ∃ m, t.toNat - f.toNat = m := ⟨_, rfl⟩
        have hfe : f = (f0 : Int) := by omega
        have hte : t = (f0 : Int) + (m : Int) := by omega
        have hfm : f0 + m ≤ l.length := by omega
        rw [hR]
        unfold lineLv
        rw [hm, hf0]
        subst hfe hte
        -- the levels, and what the line makes of them
        have HLV : Hid (Calls Tryz.prog 37 #[.slice a l.length cap, .int .i64 base] w fun e w' => (∃ v', e = .returned v' ∧ OwnI w' w.heap.size v' (levsF l mt base)) ∧ Below w.heap.size w w') := by
          by_cases h0 : l = []
          · subst h0
            have e : levsF [] mt base = [] := List.eq_nil_of_length_eq_zero (levsF_len [] mt base)
            rw [e]
            exact specLevels0 a cap mt base w hv hb01 hmt
          · rcases hv with ⟨_, _, _, e⟩ | ⟨b, off, cap', e, hb, hlc, hcm, hat⟩
            · exact absurd e h0
            · simp only [Value.slice.injEq, true_and] at e
              obtain ⟨rfl, rfl⟩ := e
              exact specLevels1 b off cap l.length l mt base w rfl (List.length_pos_iff.2 h0) h80 hok hb01 hb hat HV.out hmt
        have HLN : Hid (∀ w1 v1, Below w.heap.size w w1 → OwnI w1 w.heap.size v1 (levsF l mt base) → Calls Tryz.prog 49 #[.slice a l.length cap, v1, .int .i64 base, .int .i64 (f0 : Int), .int .i64 ((f0 : Int) + (m : Int))] w1 fun e w' => (∃ v', e = .returned v' ∧ OwnI w' w1.heap.size v' (llF (fun j => fn l (f0 + j)) (fun j => fn (levsF l mt base) (f0 + j)) m base)) ∧ Below w1.heap.size w1 w') := fun w1 v1 hb1 o1 => by
          by_cases hm0 : m = 0
          · subst hm0
            rw [show (f0 : Int) + ((0 : Nat) : Int) = (f0 : Int) by omega]
            rw [List.eq_nil_of_length_eq_zero (llF_len _ _ 0 _)]
            rcases o1.forms with ⟨rfl, e⟩ | ⟨g, c, rfl, _, _, hc, _, _⟩
            · have hln : l.length = 0 := by rw [← hA3, e]; rfl
              have hf : f0 = 0 := by omega
              subst hf
              rw [hln]
              exact specLineN a cap base w1
            · rw [hA3] at hc ⊢
              exact specLine0 a g l.length cap c f0 base w1 (by omega) hc h80
          · obtain ⟨g, c, e, hc⟩ := OwnI.form1 o1 (fun e => by rw [e] at hA3; simp at hA3; omega)
            rw [hA3] at e hc
            subst e
            obtain ⟨bl, ol, e1, hbl, hat⟩ : ∃ bl ol, a = some ⟨bl, ol, none⟩ ∧ bl < w.heap.size ∧ At w bl ol l := by
              rcases HV.out with ⟨a0, cap0, e1, e2⟩ | ⟨b, off, cap', e1, hb, hlc, hcm, hat⟩
              · rw [e2] at hfm; simp at hfm; omega
              · simp only [Value.slice.injEq] at e1
                exact ⟨b, off, e1.1, hb, hat⟩
            subst e1
            rw [show (f0 : Int) + (m : Int) = ((f0 + m : Nat) : Int) by omega]
            exact specLine1 bl ol cap g c l.length f0 m l (levsF l mt base) base _ _ w1 rfl hA3 hfm (by omega) h80 (Nat.lt_of_lt_of_le hbl hb1.size) (o1.lt g rfl).2 (hat.below hb1 hbl) (fun j hj => by rw [Nat.zero_add]; exact o1.cellN j (by rw [← hA3]; exact hj)) hc (fun j hj => ⟨rfl, rfl⟩) (fun j hj => levF_tells hlx (by omega))
        clear hq hR hlx hok hb01 h80 hA3 hf0 hm hv ho hmt h1 h2
        go_enter Tryz.func19, Tryz.ntmps19
        go_wp2_with (first | (go_at_call 36; refine (specOk3 _ l base _ HV.out hl4).mono ?_; rintro e w1 ⟨rfl, hw1⟩; rw [HQ.out, hw1]; clear hw1 w1) | (go_at_call 29; refine (specIn _ _ _ _).mono ?_; rintro e w2 ⟨rfl, hw2⟩; (first | rw [H1.out, hw2] | rw [H2.out, hw2]); clear hw2 w2))
        refine Calls.mono HLV.out ?_
        rintro e w3 ⟨⟨v3, rfl, o3⟩, b3⟩
        have HL3 := HLN.out w3 v3 b3 o3
        have HL4 : Hid _ := HL3
        have HB3 : Hid (Below w.heap.size w w3) := b3
        have hsz := b3.size
        clear HL3 o3 b3
        go_wp2_with fail
        refine Calls.mono HL4.out ?_
        rintro e w4 ⟨⟨v4, rfl, o4⟩, b4⟩
        go_wp2_with fail
        go_ret
        exact ⟨⟨_, rfl, o4.mono hsz⟩, bstep HB3.out b4⟩
      · have H2 : Hid (inB t f (l.length : Int) = false) := decide_eq_false h2
        have hR := lineLR_no (mt := mt) (l := l) (base := base) (f := f) (t := t) (fun h => h2 ⟨h.2.2.1, h.2.2.2⟩)
        have HR : Hid _ := hR
        clear hq hR hv ho hmt h1 h2
        go_enter Tryz.func19, Tryz.ntmps19
        go_wp2_with (first | (go_at_call 36; refine (specOk3 _ l base _ HV.out hl4).mono ?_; rintro e w1 ⟨rfl, hw1⟩; rw [HQ.out, hw1]; clear hw1 w1) | (go_at_call 29; refine (specIn _ _ _ _).mono ?_; rintro e w2 ⟨rfl, hw2⟩; (first | rw [H1.out, hw2] | rw [H2.out, hw2]); clear hw2 w2))
        go_ret
        exact ⟨⟨_, rfl, by rw [HR.out]; exact HO.out⟩, HB0.out⟩
    · have H1 : Hid (inB f 0 (l.length : Int) = false) := decide_eq_false h1
      have hR := lineLR_no (mt := mt) (l := l) (base := base) (f := f) (t := t) (fun h => h1 ⟨h.2.1, by omega⟩)
      have HR : Hid _ := hR
      clear hq hR hv ho hmt h1
      go_enter Tryz.func19, Tryz.ntmps19
      go_wp2_with (first | (go_at_call 36; refine (specOk3 _ l base _ HV.out hl4).mono ?_; rintro e w1 ⟨rfl, hw1⟩; rw [HQ.out, hw1]; clear hw1 w1) | (go_at_call 29; refine (specIn _ _ _ _).mono ?_; rintro e w2 ⟨rfl, hw2⟩; rw [H1.out, hw2]; clear hw2 w2))
      go_ret
      exact ⟨⟨_, rfl, by rw [HR.out]; exact HO.out⟩, HB0.out⟩
  · have HQ : Hid (okT l base = false) := by show _ = _; simpa using hq
    have hR := lineLR_no (mt := mt) (l := l) (base := base) (f := f) (t := t) (fun h => hq h.1)
    have HR : Hid _ := hR
    clear hq hR hv ho hmt
    go_enter Tryz.func19, Tryz.ntmps19
    go_wp2_with (go_at_call 36; refine (specOk3 _ l base _ HV.out hl4).mono ?_; rintro e w1 ⟨rfl, hw1⟩; rw [HQ.out, hw1]; clear hw1 w1)
    go_ret
    exact ⟨⟨_, rfl, by rw [HR.out]; exact HO.out⟩, HB0.out⟩
end Go.Proofs.YtgojdlbidjnmmaaGreat
namespace Go.Proofs.YtgojdlbidjnmmaaGreat
open Go.ChangeShapes Go.WideShapes Go.ChangeAt Go.RowKit Go.Deep
set_option linter.unusedSimpArgs false
set_option linter.unusedVariables false

set_option maxRecDepth 10000 in
set_option maxHeartbeats 8000000 in
theorem specSeen (v : Value) (l : List Int) (mt : Nat → Nat) (base f t : Int) (w : World) (a : Option Addr) (cap : Nat) (hva : v = .slice a l.length cap) (hv : Arg w v l) (hl : l.length ≤ 1048576) (hmt : Hid (MateFn (cl l) l.length mt)) :
    Calls Tryz.prog 21 #[v, .int .i64 base, .int .i64 f, .int .i64 t] w fun e w' => (∃ v', e = .returned v' ∧ OwnI w' w.heap.size v' (seenR l mt base f t)) ∧ Below w.heap.size w w' := by
  subst hva
  have hLN := specLine (.slice a l.length cap) l mt base f t w a cap rfl hv hl hmt
  have HLN : Hid _ := hLN
  have hOR := ordR_line (base := base) (f := f) (t := t) hmt.out
  have hok := lineLR_ok (base := base) (f := f) (t := t) hmt.out
  have hpt : ∀ k, k < (orderL (lineLR l mt base f t)).length → ∃ p : Nat, fn (orderL (lineLR l mt base f t)) k = (p : Int) ∧ p < (lineLR l mt base f t).length ∧ f.toNat + p < l.length ∧ 0 ≤ f ∧ 0 ≤ fn (lineLR l mt base f t) p := fun k hk => by
    obtain ⟨p, h1, h2, h3, h4⟩ := seen_at hk
    have h5 := ((orderL_ord (lineLR l mt base f t)).inn k hk).2.2
    rw [h1] at h5
    exact ⟨p, h1, h2, h3, h4, h5⟩
  unfold seenR
  have htk := fun k (hk : k < (orderL (lineLR l mt base f t)).length) => seenL_take (l := l) (f := f.toNat) hk
  have hsl := seenL_len l (lineLR l mt base f t) f.toNat
  have ho1 := ordR_len (lineLR l mt base f t)
  rw [hOR] at ho1
  obtain ⟨X, hX⟩ : ∃ X, lineLR l mt base f t = X := ⟨_, rfl⟩
  rw [hX] at HLN hOR hok hpt htk hsl ho1 ⊢
  obtain ⟨O, hO⟩ : ∃ O, orderL X = O := ⟨_, rfl⟩
  have HOO : Hid (orderL X = O) := hO
  rw [hO] at hOR hpt htk hsl ho1
  obtain ⟨fz, hfz⟩ : ∃ fz, f.toNat = fz := ⟨_, rfl⟩
  rw [hfz] at hpt htk hsl ⊢
  obtain ⟨S, hS⟩ : ∃ S, seenL l X fz = S := ⟨_, rfl⟩
  rw [hS] at htk hsl ⊢
  obtain ⟨n, hn⟩ : ∃ n, l.length = n := ⟨_, rfl⟩
  obtain ⟨nx, hnx⟩ : ∃ nx, X.length = nx := ⟨_, rfl⟩
  obtain ⟨N, hN⟩ : ∃ N, O.length = N := ⟨_, rfl⟩
  rw [hn] at hpt HLN hl ⊢
  rw [hnx] at hpt hok
  rw [hN] at hpt htk hsl ho1
  have HOR : Hid (ordR X = O) := hOR
  have HPT : Hid _ := hpt
  have HTK : Hid _ := htk
  have HSL : Hid (S.length = N) := hsl
  have HN : Hid (l.length = n) := hn
  have HNX : Hid (X.length = nx) := hnx
  have HNO : Hid (O.length = N) := hN
  have HFZ : Hid (f.toNat = fz) := hfz
  have HV : Hid (Arg w (.slice a n cap) l) := by rw [← hn]; exact hv
  have hnx80 := hok.1
  have H22 : Hid (∀ j, j < X.length → fn X j ≤ 22) := fun j hj => (hok.2 j (by rw [← hnx]; exact hj)).2
  have HX4 : Hid (X.length ≤ 4194304) := show X.length ≤ 4194304 by omega
  have HEMP : Hid (S.take 0 = []) := List.take_zero
  clear hLN hOR hok hpt htk hsl hX hO hfz hS hn hnx hN hv
  go_enter Tryz.func21, Tryz.ntmps21
  go_wp2_with fail
  refine Calls.mono HLN.out ?_
  rintro e w1 ⟨⟨v9, rfl, o9⟩, b1⟩
  go_wp2_with fail
  refine (specOrder_any v9 X _ o9.arg (by have := HX4.out; have := HNX.out; omega) H22).mono ?_
  rintro e w2 ⟨⟨v19, rfl, o19⟩, b2⟩
  rw [HOO.out] at o19
  have O9 : Hid (OwnI w2 w.heap.size v9 X) := o9.below b2
  have O19 : Hid (OwnI w2 w1.heap.size v19 O) := o19
  have HB2 : Hid (Below w.heap.size w w2) := bstep b1 b2
  have hsz2 := HB2.out.size
  obtain ⟨a19, c19, rfl⟩ : ∃ a19 c19, v19 = .slice a19 N c19 := by
    rcases o19.forms with ⟨rfl, e⟩ | ⟨g, c, rfl, _⟩
    · have := HNO.out; rw [e] at this; simp at this; subst this; exact ⟨_, _, rfl⟩
    · rw [HNO.out]; exact ⟨_, _, rfl⟩
  clear o9 o19 b1 b2
  have ho := own_empty w2 w2.heap.size 3 (Nat.le_refl _) rfl
  have HO0 : Hid _ := ho
  have HBE : Hid (Below w2.heap.size w2 (w2.alloc (.cells #[] 3))) := (Below.refl _ _).alloc (Nat.le_refl _) _
  clear ho
  go_wp2_with fail
  go_loopw [11, 12] (fun x10 x21 wr => ∃ (k : Nat) (vs : Value), x10 = vs ∧ x21 = .int .i64 k ∧ k ≤ N ∧ Hid (OwnI wr w2.heap.size vs (S.take k)) ∧ Hid (Below w2.heap.size w2 wr)) (fun _ x21 _ => N - (intOf x21).toNat)
  case atStart => exact ⟨0, _, rfl, rfl, Nat.zero_le _, by rw [HEMP.out]; exact HO0.out, HBE.out⟩
  case round =>
    obtain ⟨k, vs, e10, rfl, hk, hVS, hbx⟩ := hrel
    rename World => wx
    rw [e10]
    clear e10
    by_cases hkN : k < N
    · have hki : (k : Int) < (N : Int) := by omega
      obtain ⟨p, hp1, hp2, hp3, hf0, hp4⟩ := HPT.out k hkN
      have hfe : f = (fz : Int) := by have := HFZ.out; omega
      have htk := HTK.out k hkN
      rw [hp1] at htk
      simp only [Int.toNat_natCast] at htk
      rcases O19.out.forms with ⟨e, _⟩ | ⟨g19, c19', e, _, hg19, _, _, _⟩
      · simp only [Value.slice.injEq] at e; omega
      simp only [Value.slice.injEq] at e
      obtain ⟨rfl, -, rfl⟩ := e
      obtain ⟨g9, c9, e9, _⟩ := OwnI.form1 O9.out (fun e => by have := HNX.out; rw [e] at this; simp at this; omega)
      rw [HNX.out] at e9
      subst e9
      obtain ⟨bl, ol, e1, hbl, hat⟩ : ∃ bl ol, a = some ⟨bl, ol, none⟩ ∧ bl < w.heap.size ∧ At w bl ol l := by
        rcases HV.out with ⟨a0, cap0, e1, e2⟩ | ⟨b, off, cap', e1, hb, hlc, hcm, hat⟩
        · have := HN.out; rw [e2] at this; simp at this; omega
        · simp only [Value.slice.injEq] at e1
          exact ⟨b, off, e1.1, hb, hat⟩
      subst e1
      have x1 := (O19.out.below hbx.out).cellN k (by have := HNO.out; omega)
      have x2 := (O9.out.below hbx.out).cellN p (by have := HNX.out; omega)
      have x3 := (hat.below (HB2.out.trans (hbx.out.mono hsz2)) hbl) (fz + p) (by have := HN.out; omega)
      rw [hp1] at x1
      obtain ⟨r, hr⟩ : ∃ r, fn l (fz + p) = r := ⟨_, rfl⟩
      obtain ⟨lv, hlv⟩ : ∃ lv, fn X p = lv := ⟨_, rfl⟩
      rw [hr] at x3 htk
      rw [hlv] at x2 htk hp4
      obtain ⟨xv, hxv⟩ : ∃ xv, seenF r lv = xv := ⟨_, rfl⟩
      rw [hxv] at htk
      have HTK1 : Hid (S.take (k + 1) = S.take k ++ [xv]) := htk
      obtain ⟨q, hq⟩ : ∃ q, fz + p = q := ⟨_, rfl⟩
      rw [hq] at x3
      have hqi : (fz : Int) + (p : Int) = (q : Int) := by omega
      have hqn : (q : Int) < (n : Int) := by omega
      have hpi : (p : Int) < (nx : Int) := by omega
      have hwp : IntKind.i64.wrap (q : Int) = (q : Int) := by rw [IntKind.wrap_i64]; omega
      have hlcs : (S.take k).length + 1 ≤ 1048576 := by rw [List.length_take, HSL.out]; omega
      obtain ⟨lc, hlc⟩ : ∃ lc, S.take k = lc := ⟨_, rfl⟩
      rw [hlc] at hVS HTK1 hlcs
      have hsx := hbx.out.size
      have hlc2 : lc.length ≤ 1073741824 := by omega
      have htm : Int.tmod lv 2 = lv % 2 := Int.tmod_eq_emod_of_nonneg hp4
      clear htk hp1 hat hr hlv hlc hq
      subst hfe
      rcases Int.emod_two_eq lv with hm | hm
      · have hxr : xv = r := by rw [← hxv]; unfold seenF; rw [if_neg (by omega)]
        subst hxr
        rw [hm] at htm
        clear hm hxv
        go_wp2_with (at_builtin; refine own_append (.tmp 48) (.tmp 50) hVS.out hlc2 hsx rfl rfl rfl rfl ?_; intro v7 w7 o7 g7; have O7 : Hid (OwnI w7 w2.heap.size v7 (lc ++ [xv])) := o7; have HB7 : Hid (Below w2.heap.size w2 w7) := Below.grown hbx.out g7 hsx (fun b hb => (hVS.out.lt b hb).1); clear o7 g7)
        go_roundw
        case rel => exact ⟨k + 1, _, rfl, by go_num, by omega, by rw [HTK1.out]; exact O7.out, HB7.out⟩
        case measure => simp only [intOf]; omega
      · have hxr : mirror r = xv := by rw [← hxv]; unfold seenF; rw [if_pos hm]
        have HXR : Hid _ := hxr
        rw [hm] at htm
        clear hm hxv hxr
        go_wp2_with (first | (go_at_call 51; refine (specMirror _ _).mono ?_; rintro e w6 ⟨rfl, b6⟩; rw [HXR.out]; have B6 : Hid (Below w2.heap.size w2 w6) := bstep hbx.out b6; have O6 : Hid (OwnI w6 w2.heap.size vs lc) := hVS.out.below b6; have hs6 := B6.out.size; clear b6) | (at_builtin; refine own_append (.tmp 48) (.tmp 50) O6.out hlc2 hs6 rfl rfl rfl rfl ?_; intro v7 w7 o7 g7; have O7 : Hid (OwnI w7 w2.heap.size v7 (lc ++ [xv])) := o7; have HB7 : Hid (Below w2.heap.size w2 w7) := Below.grown B6.out g7 hs6 (fun b hb => (O6.out.lt b hb).1); clear o7 g7))
        go_roundw
        case rel => exact ⟨k + 1, _, rfl, by go_num, by omega, by rw [HTK1.out]; exact O7.out, HB7.out⟩
        case measure => simp only [intOf]; omega
    · have e : k = N := by omega
      subst e
      rw [List.take_of_length_le (by rw [HSL.out]; exact Nat.le_refl _)] at hVS
      go_wp2_with fail
      go_ret
      exact ⟨⟨_, rfl, hVS.out.mono hsz2⟩, HB2.out.trans (hbx.out.mono hsz2)⟩
end Go.Proofs.YtgojdlbidjnmmaaGreat
namespace Go.Proofs.YtgojdlbidjnmmaaGreat
theorem seenR_le {l : List Int} {mt : Nat → Nat} {base f t : Int} (hmt : MateFn (cl l) l.length mt) : (seenR l mt base f t).length ≤ 80 := by
  have h1 := ordR_line (base := base) (f := f) (t := t) hmt
  have h2 := ordR_len (lineLR l mt base f t)
  unfold seenR
  rw [seenL_len, ← h1]; exact h2
end Go.Proofs.YtgojdlbidjnmmaaGreat
namespace Go.Proofs.YtgojdlbidjnmmaaGreat
open Go.ChangeShapes Go.WideShapes Go.ChangeAt Go.RowKit
set_option linter.unusedSimpArgs false

/-- The code that a reader reads: at most 2000 bytes, none of them in the reader's own block. -/
def Code (w : World) (R : Nat) (a : Option Addr) (len : Nat) : Prop :=
  len ≤ 2000 ∧ (len = 0 ∨ ∃ b off, a = some ⟨b, off, none⟩ ∧ b < R ∧ b < w.heap.size ∧ ∀ j, j < len → ∃ x : Int, w.cell? ⟨b, off + j, none⟩ = some (.int .u8 x) ∧ 0 ≤ x ∧ x ≤ 255)
/-- A reader: its code, and how many it has read. -/
def Rd (w : World) (R p : Nat) : Prop :=
  ∃ a len cap, w.heap[R]? = some (.cells #[.slice a len cap, .int .i64 p] 92 (0, 0)) ∧ Code w R a len

theorem rd_cell0 {w : World} {R p : Nat} {v : Value} {T : TypeId} (h : w.heap[R]? = some (.cells #[v, .int .i64 p] T (0, 0))) : w.cell? ⟨R, 0, none⟩ = some v ∧ w.cell? ⟨R, 1, none⟩ = some (.int .i64 p) ∧ w.frozen? ⟨R, 1, none⟩ = false := by
  refine ⟨?_, ?_, ?_⟩
  · rw [cell_of_row w R 0 _ _ _ h]; rfl
  · rw [cell_of_row w R 1 _ _ _ h]; rfl
  · exact frozen_of_row w R 1 _ _ h

theorem xor_nat (a b : Nat) (ha : a < 4611686018427387904) (hb : b < 4611686018427387904) : bits .xor .i64 (a : Int) (b : Int) = ((a ^^^ b : Nat) : Int) := by
  have hx : a ^^^ b < 2 ^ 62 := Nat.xor_lt_two_pow (by omega) (by omega)
  show IntKind.i64.wrap ((BitVec.ofInt 64 (a : Int) ^^^ BitVec.ofInt 64 (b : Int)).toNat : Int) = _
  rw [BitVec.toNat_xor, ofInt_u64 a (by omega), ofInt_u64 b (by omega)]
  simp [IntKind.wrap, IntKind.bits, IntKind.signed]
  omega
theorem xor_pick (X n : Int) (h0 : 0 ≤ X) (h1 : X < 4611686018427387904) (hn : 1 ≤ n) : 0 ≤ (bits .xor .i64 X (X / 64)).tmod n ∧ (bits .xor .i64 X (X / 64)).tmod n < n := by
  obtain ⟨A, rfl⟩ := Int.eq_ofNat_of_zero_le h0
  have e : (A : Int) / 64 = ((A / 64 : Nat) : Int) := by omega
  rw [e, xor_nat A (A / 64) (by omega) (by omega)]
  exact ⟨Int.tmod_nonneg _ (by omega), Int.tmod_lt_of_pos _ (by omega)⟩

set_option maxHeartbeats 2000000 in
theorem pick_any (R p : Nat) (n : Int) (w : World) (hr : Rd w R p) (hp : p ≤ 100000) (hn1 : 1 ≤ n) (hn2 : n ≤ 1000000) :
    Calls Tryz.prog 44 #[.pointer (some ⟨R, 0, none⟩), .int .i64 n] w fun e w' => (∃ k : Nat, e = .returned (.int .i64 k) ∧ (k : Int) < n) ∧ ∃ m, w' = (w.setCell ⟨R, 1, none⟩ (.int .i64 ((p : Int) + 1))).drewN m := by
  obtain ⟨a, len, cap, hblk, hlen, hcode⟩ := hr
  obtain ⟨c0, c1, f1⟩ := rd_cell0 hblk
  by_cases h0 : len = 0
  · subst h0
    go_enter Tryz.func44, Tryz.ntmps44
    go_wp2
    go_ret
    exact ⟨⟨0, rfl, by omega⟩, 0, rfl⟩
  · obtain ⟨b, off, rfl, hbR0, hbw, hbytes⟩ : ∃ b off, a = some ⟨b, off, none⟩ ∧ b < R ∧ b < w.heap.size ∧ ∀ j, j < len → ∃ x : Int, w.cell? ⟨b, off + j, none⟩ = some (.int .u8 x) ∧ 0 ≤ x ∧ x ≤ 255 := by
      rcases hcode with h | h
      · exact absurd h h0
      · exact h
    have hbR : b ≠ R := by omega
    have HB : Hid _ := hbytes
    have hl0 : ((len : Int) == 0) = false := by simp; omega
    clear hbytes hcode
    by_cases hpl : p < len
    · obtain ⟨x, hx, hx0, hx1⟩ := HB.out p hpl
      go_enter Tryz.func44, Tryz.ntmps44
      go_wp2
      go_ret
      have h1 := Int.emod_nonneg x (show n ≠ 0 by omega)
      have h2 := Int.emod_lt_of_pos x (show 0 < n by omega)
      exact ⟨⟨(x % n).toNat, retInt (Int.toNat_of_nonneg h1).symm, by rw [Int.toNat_of_nonneg h1]; exact h2⟩, 0, rfl⟩
    · have hm1 : p % len < len := Nat.mod_lt _ (by omega)
      have hm2 : (p * 7 + 3) % len < len := Nat.mod_lt _ (by omega)
      obtain ⟨x, hx, hx0, hx1⟩ := HB.out (p % len) hm1
      obtain ⟨y, hy, hy0, hy1⟩ := HB.out ((p * 7 + 3) % len) hm2
      have hq : p / len ≤ p := Nat.div_le_self _ _
      have hlp : (0 : Int) < (len : Int) := by omega
      have i1 : (p : Int) % (len : Int) < (len : Int) := Int.emod_lt_of_pos _ hlp
      have j1 : 0 ≤ (p : Int) % (len : Int) := Int.emod_nonneg _ (by omega)
      have j2 : 0 ≤ ((p : Int) * 7 + 3) % (len : Int) := Int.emod_nonneg _ (by omega)
      have i2 : ((p : Int) * 7 + 3) % (len : Int) < (len : Int) := Int.emod_lt_of_pos _ hlp
      have d0 : 0 ≤ (p : Int) / (len : Int) := Int.ediv_nonneg (by omega) (by omega)
      have d1 : (p : Int) / (len : Int) ≤ 100000 := by
        have : (p : Int) / (len : Int) = ((p / len : Nat) : Int) := by simp
        rw [this]; omega
      have HX : Hid _ := xor_pick (x * 131 + y * 1117 + (p : Int) * 29 + (p : Int) / (len : Int) * 53) n (by omega) (by omega) hn1
      go_enter Tryz.func44, Tryz.ntmps44
      go_wp2
      go_quiet (fail)
      go_wp2
      go_ret
      exact ⟨⟨_, retInt (Int.toNat_of_nonneg HX.out.1).symm, by rw [Int.toNat_of_nonneg HX.out.1]; exact HX.out.2⟩, _, rfl⟩
end Go.Proofs.YtgojdlbidjnmmaaGreat
namespace Go.Proofs.YtgojdlbidjnmmaaGreat
open Go.ChangeShapes Go.WideShapes Go.ChangeAt Go.RowKit
set_option linter.unusedSimpArgs false

/-- What a reader's function leaves: the reader has read on, and of what was there no other block has turned. -/
structure Went (w w' : World) (R p' : Nat) : Prop where
  rd : Rd w' R p'
  gr : w.grownBy w' (some R)

theorem grown_trans {a b c : World} {row : Option Nat} (h : a.grownBy b row) (k : b.grownBy c row) : a.grownBy c row :=
  ⟨k.os.trans h.os, k.tape.trans h.tape, k.output.trans h.output, Nat.le_trans h.size k.size, fun i hi hne => (k.block i (Nat.lt_of_lt_of_le hi h.size) hne).trans (h.block i hi hne)⟩
theorem grown_alloc (w : World) (o : Obj) (row : Option Nat) : w.grownBy (w.alloc o) row :=
  ⟨rfl, rfl, rfl, by simp, fun k hk _ => Below.heap_alloc w o k hk⟩
theorem Code.kept {w w' : World} {R len : Nat} {a : Option Addr} (h : Code w R a len) (hg : w.grownBy w' (some R)) : Code w' R a len := by
  refine ⟨h.1, ?_⟩
  rcases h.2 with h0 | ⟨b, off, h1, h2, h3, h4⟩
  · exact .inl h0
  · refine .inr ⟨b, off, h1, h2, Nat.lt_of_lt_of_le h3 hg.size, fun j hj => ?_⟩
    obtain ⟨x, hx, hb⟩ := h4 j hj
    exact ⟨x, (World.cell?_of_block (a := ⟨b, off + j, none⟩) (hg.block b h3 (fun e => by simp at e; omega))).trans hx, hb⟩
theorem Rd.lt {w : World} {R p : Nat} (h : Rd w R p) : R < w.heap.size := by
  obtain ⟨a, len, cap, hb, _⟩ := h
  exact (Array.getElem?_eq_some_iff.1 hb).1
theorem Rd.alloc {w : World} {R p : Nat} (h : Rd w R p) (o : Obj) : Rd (w.alloc o) R p := by
  have hl := h.lt
  obtain ⟨a, len, cap, hb, hc⟩ := h
  exact ⟨a, len, cap, (Below.heap_alloc w o R hl).trans hb, hc.kept (grown_alloc w o _)⟩
/-- What another one's rows do to a reader: nothing. -/
theorem Rd.beside {w w' : World} {R p : Nat} {row : Option Nat} (h : Rd w R p) (hg : w.grownBy w' row) (hc : ∀ k, row = some k → R < k) : Rd w' R p := by
  have hl := h.lt
  obtain ⟨a, len, cap, hb, hcode⟩ := h
  refine ⟨a, len, cap, (hg.block R hl (fun e => by have := hc R e.symm; omega)).trans hb, hcode.1, ?_⟩
  rcases hcode.2 with h0 | ⟨b, off, h1, h2, h3, h4⟩
  · exact .inl h0
  · refine .inr ⟨b, off, h1, h2, Nat.lt_of_lt_of_le h3 hg.size, fun j hj => ?_⟩
    obtain ⟨x, hx, hbd⟩ := h4 j hj
    exact ⟨x, (World.cell?_of_block (a := ⟨b, off + j, none⟩) (hg.block b h3 (fun e => by have := hc b e.symm; omega))).trans hx, hbd⟩
theorem grown_own {w wr w1 : World} {row : Option Nat} {v : Value} (h : w.grownBy wr row) (hg : wr.grownBy w1 v.ownBlock) (ho : ∀ k, v.ownBlock = some k → w.heap.size ≤ k) : w.grownBy w1 row :=
  ⟨hg.os.trans h.os, hg.tape.trans h.tape, hg.output.trans h.output, Nat.le_trans h.size hg.size, fun i hi hne =>
    (hg.block i (Nat.lt_of_lt_of_le hi h.size) (fun e => by have := ho i e.symm; omega)).trans (h.block i hi hne)⟩
theorem OwnI.went {w wr : World} {R p B : Nat} {v : Value} {l : List Int} (h : OwnI w B v l) (hw : Went w wr R p) (hB : R < B) : OwnI wr B v l :=
  h.kept fun k hk => hw.gr.block k (h.lt k hk).2 (fun e => by have := (h.lt k hk).1; simp at e; omega)

theorem pick_went (R p : Nat) (n : Int) (w : World) (hr : Rd w R p) (hp : p ≤ 100000) (hn1 : 1 ≤ n) (hn2 : n ≤ 1000000) :
    Calls Tryz.prog 44 #[.pointer (some ⟨R, 0, none⟩), .int .i64 n] w fun e w' => (∃ k : Nat, e = .returned (.int .i64 k) ∧ (k : Int) < n) ∧ Went w w' R (p + 1) ∧ w'.heap.size = w.heap.size := by
  refine (pick_any R p n w hr hp hn1 hn2).mono ?_
  rintro e w' ⟨hk, m, rfl⟩
  have hl := hr.lt
  obtain ⟨a, len, cap, hb, hcode⟩ := hr
  have hgr : w.grownBy ((w.setCell ⟨R, 1, none⟩ (.int .i64 ((p : Int) + 1))).drewN m) (some R) :=
    ⟨rfl, rfl, rfl, by simp, fun k _ hne => heap_setCell_other w ⟨R, 1, none⟩ k _ (fun e => hne (by rw [e]))⟩
  refine ⟨hk, ⟨⟨a, len, cap, ?_, hcode.kept hgr⟩, hgr⟩, by simp⟩
  show (w.setCell ⟨R, 1, none⟩ (.int .i64 ((p : Int) + 1))).heap[R]? = _
  rw [heap_setCell_same w R 1 _ _ _ hb]
  simp

def isI : Value → Bool
  | .int .i64 _ => true
  | _ => false
theorem isI_get {cs : Array Value} (h : cs.all isI = true) {j : Nat} (hj : j < cs.size) : ∃ x : Int, cs[j]? = some (.int .i64 x) := by
  have := Array.all_eq_true.1 h j hj
  rw [Array.getElem?_eq_getElem hj]
  generalize cs[j] = v at this
  match v, this with
  | .int .i64 x, _ => exact ⟨x, rfl⟩

set_option maxHeartbeats 1000000 in
theorem one_any (R p m : Nat) (cs : Array Value) (T : TypeId) (w : World) (hr : Rd w R p) (hp : p ≤ 100000) (hcs : cs.all isI = true) (hm : cs.size = m) (h1 : 1 ≤ m) (h2 : m ≤ 1000) :
    Calls Tryz.prog 86 #[.pointer (some ⟨R, 0, none⟩), .slice (some ⟨w.heap.size, 0, none⟩) m m] (w.alloc (.cells cs T)) fun e w' => (∃ x : Int, e = .returned (.int .i64 x)) ∧ Went w w' R (p + 1) := by
  have hlt := hr.lt
  go_enter Tryz.func86, Tryz.ntmps86
  go_wp2_with fail
  refine (pick_went R p _ _ (hr.alloc _) hp (by omega) (by omega)).mono ?_
  rintro e w1 ⟨⟨k, rfl, hk⟩, hW, hsz⟩
  obtain ⟨x, hx⟩ := isI_get hcs (show k < cs.size by omega)
  have hcell : w1.cell? ⟨w.heap.size, k, none⟩ = some (.int .i64 x) := by
    have hb : w1.heap[w.heap.size]? = (w.alloc (.cells cs T)).heap[w.heap.size]? := hW.gr.block _ (by simp) (by simp; omega)
    rw [World.cell?_of_block (a := ⟨w.heap.size, k, none⟩) hb]
    simp [hx]
  have hkm : (k : Int) < (m : Int) := by omega
  have HW : Hid _ := hW
  clear hW
  go_wp2_with fail
  go_ret
  exact ⟨⟨x, rfl⟩, HW.out.rd, grown_trans (grown_alloc w _ _) HW.out.gr⟩

set_option maxHeartbeats 4000000 in
theorem rune_any (R p : Nat) (w : World) (hr : Rd w R p) (hp : p ≤ 99000) :
    Calls Tryz.prog 133 #[.pointer (some ⟨R, 0, none⟩)] w fun e w' => (∃ x : Int, e = .returned (.int .i64 x)) ∧ ∃ p', p' ≤ p + 2 ∧ Went w w' R p' := by
  go_enter Tryz.func133, Tryz.ntmps133
  go_wp2_with fail
  refine (pick_went R p _ _ hr (by omega) (by omega) (by omega)).mono ?_
  rintro e w1 ⟨⟨k, rfl, hk⟩, hW, hsz⟩
  have HW : Hid _ := hW
  have HR : Hid _ := hW.rd
  clear hW hsz
  go_wp2_with (go_at_call 86; refine (one_any R (p + 1) _ _ _ _ HR.out (by omega) (by kernel_rfl) (by rfl) (by omega) (by omega)).mono ?_; rintro e w2 ⟨⟨x, rfl⟩, hW2⟩)
  all_goals (go_ret)
  all_goals first
    | exact ⟨⟨_, rfl⟩, p + 2, by omega, hW2.rd, grown_trans HW.out.gr hW2.gr⟩
    | exact ⟨⟨_, rfl⟩, p + 1, by omega, HW.out⟩
end Go.Proofs.YtgojdlbidjnmmaaGreat
namespace Go.Proofs.YtgojdlbidjnmmaaGreat
open Go.ChangeShapes Go.WideShapes Go.ChangeAt Go.RowKit
set_option linter.unusedSimpArgs false

theorem Went.refl {w : World} {R p : Nat} (h : Rd w R p) : Went w w R p := ⟨h, ⟨rfl, rfl, rfl, Nat.le_refl _, fun _ _ _ => rfl⟩⟩
theorem Went.trans {a b c : World} {R p q : Nat} (h : Went a b R p) (k : Went b c R q) : Went a c R q := ⟨k.rd, grown_trans h.gr k.gr⟩
theorem Went.own {w wr w1 : World} {R p B : Nat} {v : Value} {l : List Int} (h : Went w wr R p) (hg : wr.grownBy w1 v.ownBlock) (ho : OwnI wr B v l) (hB : w.heap.size ≤ B) (hR : R < w.heap.size) : Went w w1 R p :=
  ⟨h.rd.beside hg (fun k hk => by have := (ho.lt k hk).1; omega), grown_own h.gr hg (fun k hk => by have := (ho.lt k hk).1; omega)⟩
theorem Went.below {w w' : World} {R p B : Nat} (h : Went w w' R p) (hB : B ≤ R) (hR : R < w.heap.size) : Below B w w' :=
  ⟨h.gr.os, h.gr.tape, h.gr.output, h.gr.size, fun k hk => h.gr.block k (by omega) (fun e => by simp at e; omega)⟩

def lenOf : Value → Nat
  | .slice _ n _ => n
  | _ => 0

set_option maxHeartbeats 4000000 in
theorem runes_any (R p : Nat) (w : World) (hr : Rd w R p) (hp : p ≤ 90000) :
    Calls Tryz.prog 85 #[.pointer (some ⟨R, 0, none⟩)] w fun e w' => (∃ v l, e = .returned v ∧ OwnI w' w.heap.size v l ∧ l.length ≤ 80) ∧ ∃ p', p' ≤ p + 200 ∧ Went w w' R p' := by
  have hlt := hr.lt
  go_enter Tryz.func85, Tryz.ntmps85
  go_wp2_with fail
  refine (pick_went R p _ _ (hr.alloc _) (by omega) (by omega) (by omega)).mono ?_
  rintro e w1 ⟨⟨n, rfl, hn⟩, hW, hsz⟩
  have hW0 : Went w w1 R (p + 1) := ⟨hW.rd, grown_trans (grown_alloc w _ _) hW.gr⟩
  have hO : OwnI w1 w.heap.size (.slice (some ⟨w.heap.size, 0, none⟩) 0 0) [] := (own_empty w w.heap.size 3 (Nat.le_refl _) rfl).went hW hlt
  clear hW hsz
  go_wp2_with fail
  go_loopw [3, 4] (fun q i wr => ∃ (k : Nat) (l : List Int) (p' : Nat), i = .int .i64 k ∧ OwnI wr w.heap.size q l ∧ l.length + k ≤ 23 ∧ p' + 2 * k ≤ p + 47 ∧ Went w wr R p') (fun _ i _ => (intOf i).toNat)
  case atStart => exact ⟨n, [], p + 1, rfl, hO, by simp; omega, by omega, hW0⟩
  case round =>
    obtain ⟨k, l, p', rfl, hown, hlen, hpp, hwent⟩ := hrel
    have hsz := hwent.gr.size
    by_cases hk : k = 0
    · subst hk
      go_wp2_with fail
      refine (pick_went R p' _ _ hwent.rd (by omega) (by omega) (by omega)).mono ?_
      rintro e w2 ⟨⟨m, rfl, hm⟩, hW2, hsz2⟩
      have hW3 := hwent.trans hW2
      have hown2 := hown.went hW2 hlt
      clear hW2 hsz2
      by_cases hm0 : m = 0
      · subst hm0
        go_wp2_with fail
        go_loopw [3] (fun q wr => ∃ (l : List Int) (p' : Nat), (∃ a cap, q = .slice a l.length cap) ∧ OwnI wr w.heap.size q l ∧ l.length ≤ 80 ∧ p' + (80 - l.length) ≤ p + 150 ∧ Went w wr R p') (fun q _ => 80 - lenOf q)
        case atStart =>
          refine ⟨l, p' + 1, ?_, hown2, by omega, by omega, hW3⟩
          rcases hown2.forms with ⟨rfl, rfl⟩ | ⟨g, cap, rfl, _⟩
          · exact ⟨_, _, rfl⟩
          · exact ⟨_, _, rfl⟩
        case round =>
          obtain ⟨l, p', ⟨a, cap, rfl⟩, hown, hlen, hpp, hwent⟩ := hrel
          have hR := hwent.rd
          have hsw := hwent.gr.size
          by_cases h80 : l.length < 80
          · have h80i : (l.length : Int) < 80 := by omega
            go_wp2_with fail
            refine (one_any R p' _ _ _ _ hR (by omega) (by kernel_rfl) (by rfl) (by omega) (by omega)).mono ?_
            rintro e w4 ⟨⟨x, rfl⟩, hW4⟩
            have hW5 := hwent.trans hW4
            have hown4 := hown.went hW4 hlt
            have hs4 := hW5.gr.size
            clear hW4
            go_wp2_with (at_builtin; refine own_append (.tmp 23) (.tmp 27) hown4 (by omega) hs4 rfl rfl rfl rfl ?_; intro v' w5 hown5 hgr5)
            have hl5 : (l ++ [x]).length = l.length + 1 := by simp
            obtain ⟨g, cp, rfl⟩ : ∃ g cp, v' = .slice g (l ++ [x]).length cp := by
              rcases hown5.forms with ⟨_, h⟩ | ⟨g, cap, h, _⟩
              · simp at h
              · exact ⟨_, _, h⟩
            go_roundw
            case rel => exact ⟨l ++ [x], p' + 1, ⟨_, _, rfl⟩, hown5, by omega, by omega, hW5.own hgr5 hown4 (Nat.le_refl _) hlt⟩
            case measure => simp only [lenOf]; omega
          · have h80i : ¬ (l.length : Int) < 80 := by omega
            go_wp2_with fail
            go_ret
            exact ⟨⟨_, rfl, l, hown, by omega⟩, p', by omega, hwent⟩
      · have hmb : ((m : Int) == 0) = false := by simp; omega
        go_wp2_with fail
        go_ret
        exact ⟨⟨_, l, rfl, hown2, by omega⟩, p' + 1, by omega, hW3⟩
    · obtain ⟨j, rfl⟩ : ∃ j, k = j + 1 := ⟨k - 1, by omega⟩
      go_wp2_with fail
      refine (rune_any R p' _ hwent.rd (by omega)).mono ?_
      rintro e w2 ⟨⟨x, rfl⟩, p2, hp2, hW2⟩
      have hW3 := hwent.trans hW2
      have hown2 := hown.went hW2 hlt
      have hs2 := hW3.gr.size
      clear hW2
      go_wp2_with (at_builtin; refine own_append (.tmp 12) (.tmp 15) hown2 (by omega) hs2 rfl rfl rfl rfl ?_; intro v' w3 hown3 hgr3)
      go_roundw
      case rel => exact ⟨j, l ++ [x], p2, by go_num, hown3, by simp; omega, by omega, hW3.own hgr3 hown2 (Nat.le_refl _) hlt⟩
      case measure => simp only [intOf]; omega
end Go.Proofs.YtgojdlbidjnmmaaGreat
namespace Go.Proofs.YtgojdlbidjnmmaaGreat
open Go.ChangeShapes Go.WideShapes Go.ChangeAt Go.RowKit
set_option linter.unusedSimpArgs false

set_option maxHeartbeats 4000000 in
theorem any_any (R p : Nat) (w : World) (hr : Rd w R p) (hp : p ≤ 80000) :
    Calls Tryz.prog 42 #[.pointer (some ⟨R, 0, none⟩)] w fun e w' => (∃ v l, e = .returned v ∧ OwnI w' w.heap.size v l ∧ l.length ≤ 81) ∧ ∃ p', p' ≤ p + 300 ∧ Went w w' R p' := by
  have hlt := hr.lt
  go_enter Tryz.func42, Tryz.ntmps42
  go_wp2_with fail
  refine (runes_any R p _ hr (by omega)).mono ?_
  rintro e w1 ⟨⟨v, l, rfl, hown, hlen⟩, p1, hp1, hW⟩
  go_wp2_with fail
  refine (pick_went R p1 _ _ hW.rd (by omega) (by omega) (by omega)).mono ?_
  rintro e w2 ⟨⟨n, rfl, hn⟩, hW2, hsz⟩
  have hW3 := hW.trans hW2
  have hown2 := hown.went hW2 hlt
  have hs2 := hW3.gr.size
  clear hW2 hsz hW hown
  by_cases h0 : n = 0
  · subst h0
    have hR := hW3.rd
    go_wp2_with fail
    refine (one_any R (p1 + 1) _ _ _ _ hR (by omega) (by kernel_rfl) (by rfl) (by omega) (by omega)).mono ?_
    rintro e w4 ⟨⟨x, rfl⟩, hW4⟩
    have hW5 := hW3.trans hW4
    have hown4 := hown2.went hW4 hlt
    have hs4 := hW5.gr.size
    clear hW4
    go_wp2_with (at_builtin; refine own_append (.tmp 10) (.tmp 14) hown4 (by omega) hs4 rfl rfl rfl rfl ?_; intro v' w5 hown5 hgr5)
    go_ret
    exact ⟨⟨_, _, rfl, hown5, by simp; omega⟩, p1 + 1 + 1, by omega, hW5.own hgr5 hown4 (Nat.le_refl _) hlt⟩
  · have h0b : ((n : Int) == 0) = false := by simp; omega
    by_cases h1 : n = 1
    · subst h1
      go_wp2_with fail
      go_loopw [3] (fun q wr => ∃ (l : List Int), (∃ a cap, q = .slice a l.length cap) ∧ OwnI wr w.heap.size q l ∧ l.length ≤ 81 ∧ Went w wr R (p1 + 1)) (fun q _ => 81 - lenOf q)
      case atStart =>
        refine ⟨l, ?_, hown2, by omega, hW3⟩
        rcases hown2.forms with ⟨rfl, rfl⟩ | ⟨g, cap, rfl, _⟩
        · exact ⟨_, _, rfl⟩
        · exact ⟨_, _, rfl⟩
      case round =>
        obtain ⟨l, ⟨a, cap, rfl⟩, hown, hlen, hwent⟩ := hrel
        have hsw := hwent.gr.size
        by_cases h80 : l.length ≤ 80
        · have h80i : (l.length : Int) ≤ 80 := by omega
          go_wp2_with (at_builtin; refine own_append (.tmp 21) (.tmp 22) hown (by omega) hsw rfl rfl rfl rfl ?_; intro v' w5 hown5 hgr5)
          have hl5 : (l ++ [(97 : Int)]).length = l.length + 1 := by simp
          obtain ⟨g, cp, rfl⟩ : ∃ g cp, v' = .slice g (l ++ [(97 : Int)]).length cp := by
            rcases hown5.forms with ⟨_, h⟩ | ⟨g, cap, h, _⟩
            · simp at h
            · exact ⟨_, _, h⟩
          go_roundw
          case rel => exact ⟨l ++ [97], ⟨_, _, rfl⟩, hown5, by omega, hwent.own hgr5 hown (Nat.le_refl _) hlt⟩
          case measure => simp only [lenOf]; omega
        · have h80i : ¬ (l.length : Int) ≤ 80 := by omega
          go_wp2_with fail
          go_ret
          exact ⟨⟨_, rfl, l, hown, by omega⟩, p1 + 1, by omega, hwent⟩
    · have h1b : ((n : Int) == 1) = false := by simp; omega
      go_wp2_with fail
      go_ret
      exact ⟨⟨_, _, rfl, hown2, by omega⟩, p1 + 1, by omega, hW3⟩

/-- The bytes of a code that came in. -/
def Bytes (w : World) (a : Option Addr) (len cap : Nat) : Prop :=
  len ≤ cap ∧ cap ≤ maxLen ∧ (len = 0 ∨ ∃ b off, a = some ⟨b, off, none⟩ ∧ b < w.heap.size ∧ ∀ j, j < len → ∃ x : Int, w.cell? ⟨b, off + j, none⟩ = some (.int .u8 x) ∧ 0 ≤ x ∧ x ≤ 255)
theorem Bytes.below {w w' : World} {a : Option Addr} {len cap : Nat} (h : Bytes w a len cap) (hb : Below w.heap.size w w') : Bytes w' a len cap := by
  refine ⟨h.1, h.2.1, ?_⟩
  rcases h.2.2 with h0 | ⟨b, off, h1, h2, h3⟩
  · exact .inl h0
  · refine .inr ⟨b, off, h1, Nat.lt_of_lt_of_le h2 hb.size, fun j hj => ?_⟩
    obtain ⟨x, hx, hbd⟩ := h3 j hj
    exact ⟨x, (hb.cell (p := ⟨b, off + j, none⟩) h2).trans hx, hbd⟩

theorem rd_new {w : World} {a : Option Addr} {len cap : Nat} (hlen : len ≤ 2000) (h : len = 0 ∨ ∃ b off, a = some ⟨b, off, none⟩ ∧ b < w.heap.size ∧ ∀ j, j < len → ∃ x : Int, w.cell? ⟨b, off + j, none⟩ = some (.int .u8 x) ∧ 0 ≤ x ∧ x ≤ 255) :
    Rd (w.alloc (.cells #[.slice a len cap, .int .i64 0] 92)) w.heap.size 0 := by
  refine ⟨a, len, cap, by show (w.heap.push _)[w.heap.size]? = _; simp, hlen, ?_⟩
  rcases h with h0 | ⟨b, off, h1, h2, h3⟩
  · exact .inl h0
  · refine .inr ⟨b, off, h1, h2, by simp; omega, fun j hj => ?_⟩
    obtain ⟨x, hx, hbd⟩ := h3 j hj
    exact ⟨x, (World.cell?_of_block (a := ⟨b, off + j, none⟩) (Below.heap_alloc w _ b h2)).trans hx, hbd⟩

set_option maxHeartbeats 1000000 in
theorem open_any (a : Option Addr) (len cap : Nat) (w : World) (h : Bytes w a len cap) :
    Calls Tryz.prog 41 #[.slice a len cap] w fun e w' => e = .returned (.pointer (some ⟨w.heap.size, 0, none⟩)) ∧ Rd w' w.heap.size 0 ∧ Below w.heap.size w w' := by
  obtain ⟨hlc, hcm, hcode⟩ := h
  unfold maxLen at hcm
  by_cases hbig : 2000 < len
  · obtain ⟨b, off, rfl, hb, hbytes⟩ : ∃ b off, a = some ⟨b, off, none⟩ ∧ b < w.heap.size ∧ ∀ j, j < len → ∃ x : Int, w.cell? ⟨b, off + j, none⟩ = some (.int .u8 x) ∧ 0 ≤ x ∧ x ≤ 255 := by
      rcases hcode with h | h
      · omega
      · exact h
    have HB : Hid _ := hbytes
    clear hbytes hcode
    have hbi : (2000 : Int) < (len : Int) := by omega
    have hci : (2000 : Int) ≤ (cap : Int) := by omega
    go_enter Tryz.func41, Tryz.ntmps41
    go_wp2
    go_ret
    exact ⟨rfl, rd_new (by omega) (.inr ⟨b, off, rfl, hb, fun j hj => HB.out j (by omega)⟩), by go_grown⟩
  · have hbi : (len : Int) ≤ 2000 := by omega
    have HC : Hid _ := hcode
    clear hcode
    go_enter Tryz.func41, Tryz.ntmps41
    go_wp2
    go_ret
    exact ⟨rfl, rd_new (by omega) HC.out, by go_grown⟩
end Go.Proofs.YtgojdlbidjnmmaaGreat
namespace Go.Proofs.YtgojdlbidjnmmaaGreat
open Go.ChangeShapes Go.WideShapes Go.ChangeAt Go.RowKit
set_option linter.unusedSimpArgs false

theorem six_get {w : World} {R : Nat} {a b c d e f : Int} {k : Nat} {T : TypeId} (h : w.heap[R]? = some (.cells #[.int .i64 a, .int .i64 b, .int .i64 c, .int .i64 d, .int .i64 e, .int .i64 f] T (0, 0))) (hk : k < 6) : ∃ x : Int, w.cell? ⟨R, k, none⟩ = some (.int .i64 x) := by
  rw [cell_of_row w R k _ _ _ h]
  rcases (by omega : k = 0 ∨ k = 1 ∨ k = 2 ∨ k = 3 ∨ k = 4 ∨ k = 5) with e | e | e | e | e | e
  all_goals (subst e; exact ⟨_, rfl⟩)

set_option maxHeartbeats 1000000 in
theorem base_any (R p : Nat) (w : World) (hr : Rd w R p) (hp : p ≤ 90000) :
    Calls Tryz.prog 45 #[.pointer (some ⟨R, 0, none⟩)] w fun e w' => (∃ b : Int, e = .returned (.int .i64 b)) ∧ Went w w' R (p + 1) := by
  have hlt := hr.lt
  go_enter Tryz.func45, Tryz.ntmps45
  go_wp2_with fail
  refine (pick_went R p _ _ (hr.alloc _) (by omega) (by omega) (by omega)).mono ?_
  rintro e w5 ⟨⟨x4, rfl, hx4⟩, hW5, hz5⟩
  have hV5 : Went w w5 R (p + 1) := ⟨hW5.rd, grown_trans (grown_alloc w _ _) hW5.gr⟩
  obtain ⟨x5, hx5⟩ : ∃ x : Int, w5.cell? ⟨w.heap.size, x4 * 6 / 18, none⟩ = some (.int .i64 x) := by
    refine six_get (T := 3) (a := 0) (b := 1) (c := 0) (d := 1) (e := 2) (f := -1) ?_ (by omega)
    rw [hW5.gr.block _ (by simp) (by simp; omega)]
    show (w.heap.push _)[w.heap.size]? = _
    simp
  clear hW5 hz5
  go_wp2_with fail
  go_ret
  exact ⟨⟨x5, rfl⟩, hV5⟩

set_option maxHeartbeats 1000000 in
theorem drawTold (a : Option Addr) (len cap : Nat) (w : World) (h : Bytes w a len cap) :
    Calls Tryz.prog 28 #[.slice a len cap] w fun e w' => (∃ v l b, e = .returned (.tuple #[v, .int .i64 b]) ∧ OwnI w' w.heap.size v l ∧ l.length ≤ 81) ∧ Below w.heap.size w w' := by
  go_enter Tryz.func28, Tryz.ntmps28
  go_wp2_with fail
  refine (open_any a len cap w h).mono ?_
  rintro e w1 ⟨rfl, hR, hB⟩
  have hlt := hR.lt
  have hsz := hB.size
  go_wp2_with fail
  refine (any_any w.heap.size 0 w1 hR (by omega)).mono ?_
  rintro e w2 ⟨⟨v, l, rfl, hown, hl⟩, p', hp', hW⟩
  go_wp2_with fail
  refine (base_any w.heap.size p' w2 hW.rd (by omega)).mono ?_
  rintro e w3 ⟨⟨b, rfl⟩, hW3⟩
  have ho3 := hown.went hW3 hlt
  have hV := hW.trans hW3
  clear hW hW3 hown
  go_wp2_with fail
  go_ret2
  exact ⟨⟨v, l, b, rfl, ho3.mono (by omega), hl⟩, hB.trans (hV.below (Nat.le_refl _) hlt)⟩
end Go.Proofs.YtgojdlbidjnmmaaGreat
namespace Go.Proofs.YtgojdlbidjnmmaaGreat
open Go.ChangeShapes Go.WideShapes Go.ChangeAt Go.RowKit
set_option linter.unusedSimpArgs false
set_option linter.unusedVariables false

theorem results_tmp4 {fn : Func} {t u v x : Tmp} (h : fn.results = #[.tmp t, .tmp u, .tmp v, .tmp x]) (tmps : Array Value) (P : Program) (w : World) :
    (results fn tmps).run P w = .ok (.tuple #[tmps.getD t undef, tmps.getD u undef, tmps.getD v undef, tmps.getD x undef]) w := by
  simp [results, h]
set_option maxHeartbeats 2000000 in
theorem line_any (R p c : Nat) (w : World) (hr : Rd w R p) (hp : p ≤ 90000) (hc : c ≤ 1000) :
    Calls Tryz.prog 43 #[.pointer (some ⟨R, 0, none⟩), .int .i64 (c : Int)] w fun e w' => (∃ f t : Nat, e = .returned (.tuple #[.int .i64 (f : Int), .int .i64 (t : Int)]) ∧ f ≤ c ∧ f ≤ t ∧ t ≤ c) ∧ Went w w' R (p + 2) := by
  have hlt := hr.lt
  go_enter Tryz.func43, Tryz.ntmps43
  go_wp2_with fail
  refine (pick_went R p _ _ hr (by omega) (by omega) (by omega)).mono ?_
  rintro e w1 ⟨⟨k, rfl, hk⟩, hW1, hz1⟩
  have hkc : k ≤ c := by omega
  go_wp2_with fail
  refine (pick_went R (p + 1) _ _ hW1.rd (by omega) (by omega) (by omega)).mono ?_
  rintro e w2 ⟨⟨j, rfl, hj⟩, hW2, hz2⟩
  have hjc : k + j ≤ c := by omega
  go_wp2_with fail
  go_ret2
  exact ⟨⟨k, k + j, by first | rfl | simp, hkc, by omega, hjc⟩, hW1.trans hW2⟩
set_option maxHeartbeats 2000000 in
theorem drawLine (a : Option Addr) (len cap : Nat) (w : World) (h : Bytes w a len cap) :
    Calls Tryz.prog 17 #[.slice a len cap] w fun e w' => (∃ (v : Value) (l : List Int) (b : Int) (f t : Nat), e = .returned (.tuple #[v, .int .i64 b, .int .i64 (f : Int), .int .i64 (t : Int)]) ∧ OwnI w' w.heap.size v l ∧ l.length ≤ 81 ∧ f ≤ l.length ∧ f ≤ t ∧ t ≤ l.length + 1) ∧ Below w.heap.size w w' := by
  go_enter Tryz.func17, Tryz.ntmps17
  go_wp2_with fail
  refine (open_any a len cap w h).mono ?_
  rintro e w1 ⟨rfl, hR, hB⟩
  have hlt := hR.lt
  have hsz := hB.size
  go_wp2_with fail
  refine (any_any w.heap.size 0 w1 hR (by omega)).mono ?_
  rintro e w2 ⟨⟨v, l, rfl, hown, hl⟩, p', hp', hW⟩
  obtain ⟨av, n, cv, rfl, hn⟩ := hown.slicZ
  have HN : Hid (l.length = n) := hn
  have hn81 : n ≤ 81 := by omega
  clear hn
  go_wp2_with fail
  refine (line_any w.heap.size p' n w2 hW.rd (by omega) (by omega)).mono ?_
  rintro e w3 ⟨⟨f, t, rfl, hf1, hf2, hf3⟩, hW3⟩
  have ho3 := hown.went hW3 hlt
  have hV := hW.trans hW3
  clear hW hown hW3
  go_wp2_with fail
  refine (pick_went w.heap.size (p' + 2) 16 w3 hV.rd (by omega) (by omega) (by omega)).mono ?_
  rintro e w4 ⟨⟨k, rfl, hk⟩, hW4, hz4⟩
  have ho4 := ho3.went hW4 hlt
  have hV4 := hV.trans hW4
  clear hV ho3 hW4 hz4
  by_cases hk0 : k = 0
  · subst hk0
    go_wp2_with fail
    refine (base_any w.heap.size (p' + 2 + 1) w4 hV4.rd (by omega)).mono ?_
    rintro e w5 ⟨⟨b, rfl⟩, hW5⟩
    have ho5 := ho4.went hW5 hlt
    have hV5 := hV4.trans hW5
    clear hW5 ho4 hV4
    go_wp2_with fail
    ((try simp only [Exit.inBlock, Exit.then]); refine bodyPost_ret (results_tmp4 rfl _ _ _) rfl ?_)
    exact ⟨⟨_, l, b, f, n + 1, by first | rfl | simp, ho5.mono (by omega), hl, by rw [HN.out]; exact hf1, by omega, by rw [HN.out]; omega⟩, hB.trans (hV5.below (Nat.le_refl _) hlt)⟩
  · have hkb : ((k : Int) == 0) = false := by simp; omega
    go_wp2_with fail
    refine (base_any w.heap.size (p' + 2 + 1) w4 hV4.rd (by omega)).mono ?_
    rintro e w5 ⟨⟨b, rfl⟩, hW5⟩
    have ho5 := ho4.went hW5 hlt
    have hV5 := hV4.trans hW5
    clear hW5 ho4 hV4
    go_wp2_with fail
    ((try simp only [Exit.inBlock, Exit.then]); refine bodyPost_ret (results_tmp4 rfl _ _ _) rfl ?_)
    exact ⟨⟨_, l, b, f, t, by first | rfl | simp, ho5.mono (by omega), hl, by rw [HN.out]; exact hf1, by omega, by rw [HN.out]; omega⟩, hB.trans (hV5.below (Nat.le_refl _) hlt)⟩
set_option maxHeartbeats 2000000 in
theorem drawSeen (a : Option Addr) (len cap : Nat) (w : World) (h : Bytes w a len cap) :
    Calls Tryz.prog 20 #[.slice a len cap] w fun e w' => (∃ (v : Value) (l : List Int) (b : Int) (f t : Nat), e = .returned (.tuple #[v, .int .i64 b, .int .i64 (f : Int), .int .i64 (t : Int)]) ∧ OwnI w' w.heap.size v l ∧ l.length ≤ 81 ∧ f ≤ l.length ∧ f ≤ t ∧ t ≤ l.length + 1) ∧ Below w.heap.size w w' := by
  go_enter Tryz.func20, Tryz.ntmps20
  go_wp2_with fail
  refine (drawLine a len cap w h).mono ?_
  rintro e w1 ⟨⟨v, l, b, f, t, rfl, o1, hl, h1, h2, h3⟩, b1⟩
  go_wp2_with fail
  ((try simp only [Exit.inBlock, Exit.then]); refine bodyPost_ret (results_tmp4 rfl _ _ _) rfl ?_)
  exact ⟨⟨v, l, b, f, t, rfl, o1, hl, h1, h2, h3⟩, b1⟩
end Go.Proofs.YtgojdlbidjnmmaaGreat
namespace Go.Proofs.YtgojdlbidjnmmaaGreat
open Go.ChangeShapes Go.WideShapes Go.ChangeAt Go.RowKit
set_option linter.unusedSimpArgs false

def eqBw (a b : List Int) : Bool := decide (a = b)
theorem eqBw_self (a : List Int) : eqBw a a = true := by simp [eqBw]
theorem eqBw_no {a b : List Int} (h : a ≠ b) : eqBw a b = false := by simp [eqBw, h]

set_option maxHeartbeats 2000000 in
theorem wcInts_any (v1 v2 : Value) (l1 l2 : List Int) (w : World) (h1 : Arg w v1 l1) (h2 : Arg w v2 l2) (hl : l1.length ≤ 4194304) :
    Calls Tryz.prog 12 #[v1, v2] w fun e w' => e = .returned (.bool (eqBw l1 l2)) ∧ ∃ n, w' = w.drewN n := by
  by_cases hn : l1.length = l2.length
  · rcases h1 with ⟨a1, c1, rfl, rfl⟩ | ⟨b, off, cap, rfl, hb, hlc, hcm, hat⟩
    · have e2 : l2 = [] := List.eq_nil_of_length_eq_zero hn.symm
      subst e2
      rcases h2 with ⟨a2, c2, rfl, _⟩ | ⟨b', off', cap', rfl, hb', hlc', hcm', hat'⟩
      all_goals
        go_enter Tryz.func12, Tryz.ntmps12
        go_wp2
        go_rounds 1
        go_ret
        exact ⟨rfl, 0, rfl⟩
    · rcases h2 with ⟨a2, c2, rfl, rfl⟩ | ⟨b', off', cap', rfl, hb', hlc', hcm', hat'⟩
      · have e1 : l1 = [] := List.eq_nil_of_length_eq_zero hn
        subst e1
        go_enter Tryz.func12, Tryz.ntmps12
        go_wp2
        go_rounds 1
        go_ret
        exact ⟨rfl, 0, rfl⟩
      · obtain ⟨n, hn1⟩ : ∃ n, l1.length = n := ⟨_, rfl⟩
        have hn2 : l2.length = n := by omega
        have hnn : n ≤ 4194304 := by omega
        rw [hn1, hn2]
        clear hn
        go_enter Tryz.func12, Tryz.ntmps12
        go_wp2
        go_loopw [5] (fun i wr => ∃ (k m : Nat), k ≤ n ∧ i = .int .i64 k ∧ wr = w.drewN m ∧ Hid (∀ j, j < k → fn l1 j = fn l2 j)) (fun i _ => n - (intOf i).toNat)
        case atStart => exact ⟨0, 0, Nat.zero_le _, rfl, rfl, fun j hj => by omega⟩
        case round =>
          obtain ⟨k, m, hk, rfl, rfl, hsame⟩ := hrel
          by_cases hlt : k < n
          · have hc1 : w.cell? ⟨b, off + k, none⟩ = some (.int .i64 (fn l1 k)) := hat k (by omega)
            have hc2 : w.cell? ⟨b', off' + k, none⟩ = some (.int .i64 (fn l2 k)) := hat' k (by omega)
            have hki : (k : Int) < (n : Int) := by omega
            by_cases hq : fn l1 k = fn l2 k
            · have hq2 : (fn l1 k == fn l2 k) = true := by simpa using hq
              have HQ : Hid _ := hq
              clear hq
              go_wp2
              go_quiet (fail)
              go_wp2
              go_roundw
              case rel =>
                refine ⟨k + 1, _, by omega, by go_num, by first | rfl | rw [World.drewN_drewN], fun j hj => ?_⟩
                by_cases ej : j = k
                · subst ej; exact HQ.out
                · exact hsame.out j (by omega)
              case measure => simp only [intOf]; omega
            · have hq2 : (fn l1 k == fn l2 k) = false := by simpa using hq
              go_wp2
              go_quiet (fail)
              go_wp2
              go_ret
              exact ⟨retBool (eqBw_no (fun h => hq (by rw [h]))).symm, _, by first | rfl | rw [World.drewN_drewN]⟩
          · have e : k = n := by omega
            subst e
            go_wp2
            go_ret
            refine ⟨retBool ?_, _, rfl⟩
            rw [ext_fn (l := l1) (r := l2) (by omega) (fun j hj => hsame.out j (by omega)), eqBw_self]
  · have hfin := eqBw_no (a := l1) (b := l2) (fun h => hn (by rw [h]))
    have HF : Hid _ := hfin
    have hne : ((l1.length : Int) != (l2.length : Int)) = true := by simp; omega
    clear hfin
    rcases h1 with ⟨a1, c1, rfl, e1⟩ | ⟨b, off, cap, rfl, hb, hlc, hcm, hat⟩
    all_goals
      rcases h2 with ⟨a2, c2, rfl, e2⟩ | ⟨b', off', cap', rfl, hb', hlc', hcm', hat'⟩
    · exact absurd (by rw [e1, e2]) hn
    · have hz : ((0 : Int) != (l2.length : Int)) = true := by rw [e1] at hne; exact hne
      clear hne
      go_enter Tryz.func12, Tryz.ntmps12
      go_wp2
      go_ret
      exact ⟨retBool HF.out.symm, 0, rfl⟩
    · have hz : ((l1.length : Int) != (0 : Int)) = true := by rw [e2] at hne; exact hne
      clear hne
      go_enter Tryz.func12, Tryz.ntmps12
      go_wp2
      go_ret
      exact ⟨retBool HF.out.symm, 0, rfl⟩
    · go_enter Tryz.func12, Tryz.ntmps12
      go_wp2
      go_ret
      exact ⟨retBool HF.out.symm, 0, rfl⟩

theorem wcInts_yes (v1 v2 : Value) (l : List Int) (w : World) (h1 : Arg w v1 l) (h2 : Arg w v2 l) (hl : l.length ≤ 4194304) :
    Calls Tryz.prog 12 #[v1, v2] w fun e w' => e = .returned (.bool true) ∧ Below w.heap.size w w' := by
  refine (wcInts_any v1 v2 l l w h1 h2 hl).mono ?_
  rintro e w' ⟨rfl, n, rfl⟩
  exact ⟨retBool (eqBw_self l), below_draws w n⟩
end Go.Proofs.YtgojdlbidjnmmaaGreat
namespace Go.Proofs.YtgojdlbidjnmmaaGreat
open Go.ChangeShapes Go.WideShapes Go.ChangeAt Go.RowKit
set_option linter.unusedSimpArgs false

/-- What came in as a row of bytes can be read. -/
theorem bytesRow {w : World} {a : Option Addr} {len cap : Nat} {zs : List Int}
    (h : (a = none ∧ len = 0 ∧ cap = 0 ∧ zs = []) ∨ ∃ x, a = some x ∧ len ≤ cap ∧ cap ≤ maxLen ∧ zs.length = cap ∧ (∀ i, i < zs.length → w.cell? (x.add i) = some (.int .u8 (zs.getD i 0))) ∧ ∀ n ∈ zs, (Lit.int .u8 n).wf = true) :
    Bytes w a len cap := by
  rcases h with ⟨rfl, rfl, rfl, rfl⟩ | ⟨x, rfl, h1, h2, h3, h4, h5⟩
  · exact ⟨Nat.le_refl _, Nat.zero_le _, .inl rfl⟩
  · refine ⟨h1, h2, ?_⟩
    by_cases h0 : len = 0
    · exact .inl h0
    · right
      obtain ⟨b, off, spot⟩ := x
      have hc := h4 0 (by omega)
      have hspot : spot = none := by simpa [Addr.add] using World.cell?_spot hc
      subst hspot
      have hb := World.block_lt_of_cell? _ _ hc
      refine ⟨b, off, rfl, by simpa [Addr.add] using hb, fun j hj => ?_⟩
      have h6 := h4 j (by omega)
      have hadd : (⟨b, off, none⟩ : Addr).add j = ⟨b, off + j, none⟩ := by unfold Addr.add; split <;> simp_all
      rw [hadd] at h6
      refine ⟨_, h6, ?_⟩
      have h7 := h5 (zs.getD j 0) (by simp [List.getD, show j < zs.length by omega])
      exact bounds_u8 h7
end Go.Proofs.YtgojdlbidjnmmaaGreat
namespace Go.Proofs.YtgojdlbidjnmmaaGreat
set_option linter.unusedSimpArgs false

theorem mate_cases (r : Int) : (mate r = 0 ∧ r ≠ 40 ∧ r ≠ 41 ∧ r ≠ 91 ∧ r ≠ 93 ∧ r ≠ 123 ∧ r ≠ 125) ∨ r = 40 ∨ r = 41 ∨ r = 91 ∨ r = 93 ∨ r = 123 ∨ r = 125 := by
  by_cases h : r = 40 ∨ r = 41 ∨ r = 91 ∨ r = 93 ∨ r = 123 ∨ r = 125
  · exact .inr h
  · left
    refine ⟨?_, by omega, by omega, by omega, by omega, by omega, by omega⟩
    unfold mate
    repeat (rw [if_neg (by omega)])
theorem mirror_mirror (r : Int) : mirror (mirror r) = r := by
  rcases mate_cases r with ⟨h, h1, h2, h3, h4, h5, h6⟩ | rfl | rfl | rfl | rfl | rfl | rfl
  · by_cases a : r = 60
    · subst a; decide
    · by_cases b : r = 62
      · subst b; decide
      · have e : mirror r = r := by simp [mirror, h, a, b]
        rw [e, e]
  all_goals decide
end Go.Proofs.YtgojdlbidjnmmaaGreat
namespace Go.Proofs.YtgojdlbidjnmmaaGreat
open Go.ChangeShapes Go.WideShapes Go.ChangeAt Go.RowKit Go.Deep
set_option linter.unusedSimpArgs false
set_option linter.unusedVariables false

theorem lineLR_in {l : List Int} {mt : Nat → Nat} {base f t : Int} (h : 0 < (lineLR l mt base f t).length) : 0 ≤ f ∧ f.toNat + (lineLR l mt base f t).length ≤ l.length := by
  by_cases ho : okT l base = true ∧ 0 ≤ f ∧ f ≤ t ∧ t ≤ l.length
  · rw [lineLR_yes ho]
    unfold lineLv
    rw [llF_len]
    omega
  · rw [lineLR_no ho] at h; simp at h
theorem fn_seenL {l lv : List Int} {f x i : Nat} (hx : x < (orderL lv).length) (h : fn (orderL lv) x = (i : Int)) : fn (seenL l lv f) x = seenF (fn l (f + i)) (fn lv i) := by
  rw [fn_get (by rw [seenL_len]; exact hx)]
  rw [fn_get hx] at h
  simp [seenL, h]

set_option maxRecDepth 10000 in
set_option maxHeartbeats 8000000 in
theorem seenLaw (a : Option Addr) (len cap : Nat) (w : World) (h : Bytes w a len cap) :
    Calls Tryz.prog 6 #[.slice a len cap] w fun e w' => e = .returned (.bool true) ∧ Below w.heap.size w w' := by
  by_cases hbig : 1048576 < len
  · have hbig2 : (1048576 : Int) < (len : Int) := by omega
    go_enter Tryz.func6, Tryz.ntmps6
    go_wp2_with fail
    go_ret
    exact ⟨rfl, Below.refl _ _⟩
  · have hl2 : (len : Int) ≤ 1048576 := by omega
    go_enter Tryz.func6, Tryz.ntmps6
    go_wp2_with fail
    refine (drawSeen a len cap w h).mono ?_
    rintro e w1 ⟨⟨v, l, b, f0, t0, rfl, o1, hlen, hfl, hft, htl⟩, b1⟩
    obtain ⟨av, n, cv, rfl, hn⟩ := o1.slicZ
    have HN : Hid (l.length = n) := hn
    have hn81 : n ≤ 81 := by omega
    have HL6 : Hid (l.length ≤ 1048576) := show l.length ≤ 1048576 by omega
    obtain ⟨mt, hmt⟩ := mt_exists (cl l) l.length
    have HMT : Hid (MateFn (cl l) l.length mt) := hmt
    have hS80 := seenR_le (base := b) (f := (f0 : Int)) (t := (t0 : Int)) hmt
    have hlv := lineLR_lv (base := b) (f := (f0 : Int)) (t := (t0 : Int)) hmt
    have hX80 := (lineLR_ok (base := b) (f := (f0 : Int)) (t := (t0 : Int)) hmt).1
    have hin := fun h => lineLR_in (l := l) (mt := mt) (base := b) (f := (f0 : Int)) (t := (t0 : Int)) h
    have hSR : seenR l mt b (f0 : Int) (t0 : Int) = seenL l (lineLR l mt b (f0 : Int) (t0 : Int)) f0 := by unfold seenR; simp
    obtain ⟨S, hS⟩ : ∃ S, seenR l mt b (f0 : Int) (t0 : Int) = S := ⟨_, rfl⟩
    obtain ⟨X, hX⟩ : ∃ X, lineLR l mt b (f0 : Int) (t0 : Int) = X := ⟨_, rfl⟩
    rw [hS] at hS80
    rw [hS, hX] at hSR
    rw [hX] at hlv hX80 hin
    have HS : Hid (seenR l mt b (f0 : Int) (t0 : Int) = S) := hS
    have HX : Hid (lineLR l mt b (f0 : Int) (t0 : Int) = X) := hX
    have hbk : backR X = backF X.length (orderL X) (orderL X).length := if_pos hlv
    have hSl : S.length = (ord0 (fn X) X.length).length := by rw [hSR, seenL_len, orderL_len]
    have HRD : Hid (∀ i, i < X.length → 0 ≤ fn X i → ∃ x : Nat, x < S.length ∧ fn (backR X) i = (x : Int) ∧ fn S x = seenF (fn l (f0 + i)) (fn X i)) := fun i hi h0 => by
      obtain ⟨x, hx1, hx2, hx3⟩ := (back_is X hi).2 h0
      refine ⟨x, by rw [hSR, seenL_len]; exact hx1, by rw [hbk]; exact hx2, ?_⟩
      rw [hSR]; exact fn_seenL hx1 hx3
    have HBL : Hid ((backR X).length = X.length) := by unfold Hid; rw [hbk, backF_len]
    obtain ⟨nx, hnx⟩ : ∃ nx, X.length = nx := ⟨_, rfl⟩
    obtain ⟨N, hN⟩ : ∃ N, S.length = N := ⟨_, rfl⟩
    rw [hnx] at hX80 hin HRD hSl HBL
    rw [hN] at hS80 HRD hSl
    have HNX : Hid (X.length = nx) := hnx
    have HNS : Hid (S.length = N) := hN
    have HCN : Hid (N = (ord0 (fn X) nx).length) := hSl
    have HIN : Hid (0 < nx → f0 + nx ≤ n) := fun q => by have := (hin q).2; have := HN.out; simp at *; omega
    have HS4 : Hid (S.length ≤ 4194304) := show S.length ≤ 4194304 by omega
    have hnx4 : nx ≤ 4194304 := by omega
    rw [hn] at hfl htl
    clear hn hS hX hmt hlv hin hSR hbk hSl hnx hN
    go_wp2_with fail
    refine (implSeen _ l mt b _ _ _ av cv (by rw [HN.out]) o1.arg HL6.out HMT).mono ?_
    rintro e w2 ⟨⟨vs, rfl, os2⟩, b2⟩
    rw [HS.out] at os2
    have o2 := o1.below b2
    have B2 := bstep b1 b2
    go_wp2_with fail
    refine (specSeen _ l mt b _ _ _ av cv (by rw [HN.out]) o2.arg HL6.out HMT).mono ?_
    rintro e w3 ⟨⟨v3, rfl, p3⟩, b3⟩
    rw [HS.out] at p3
    have o3 := o2.below b3
    have os3 := os2.below b3
    have B3 := bstep B2 b3
    go_wp2_with fail
    refine (wcInts_yes _ _ S _ os3.arg p3.arg HS4.out).mono ?_
    rintro e w4 ⟨rfl, b4⟩
    have o4 := o3.below b4
    have os4 := os3.below b4
    have B4 := bstep B3 b4
    clear o1 o2 o3 os2 os3 p3 B2 B3 b1 b2 b3 b4
    go_wp2_with fail
    refine (implLine _ l mt b _ _ _ av cv (by rw [HN.out]) o4.arg HL6.out HMT).mono ?_
    rintro e w5 ⟨⟨vx, rfl, ox5⟩, b5⟩
    rw [HX.out] at ox5
    have o5 := o4.below b5
    have os5 := os4.below b5
    have B5 := bstep B4 b5
    obtain ⟨ax, nx', cx, rfl, hnx'⟩ := ox5.slicZ
    have e1 : nx' = nx := by rw [← hnx', HNX.out]
    subst e1
    clear o4 os4 B4 b5 hnx'
    go_wp2_with fail
    refine (implBack ax nx' cx X _ HNX.out ox5.arg hnx4).mono ?_
    rintro e w6 ⟨⟨vb, rfl, ob6⟩, b6⟩
    have o6 := o5.below b6
    have os6 := os5.below b6
    have ox6 := ox5.below b6
    have B6 := bstep B5 b6
    clear o5 os5 ox5 B5 b6
    obtain ⟨as1, ns, cs1, rfl, hns⟩ := os6.slicZ
    have e2 : ns = N := by rw [← hns, HNS.out]
    subst e2
    obtain ⟨ab, nb, cb, rfl, hnb⟩ := ob6.slicZ
    have e3 : nb = nx' := by rw [← hnb, HBL.out]
    subst e3
    have O6 : Hid (OwnI w6 w.heap.size (.slice av n cv) l) := o6
    have OS6 : Hid (OwnI w6 w1.heap.size (.slice as1 ns cs1) S) := os6
    have OX6 : Hid (OwnI w6 w4.heap.size (.slice ax nb cx) X) := ox6
    have OB6 : Hid (OwnI w6 w5.heap.size (.slice ab nb cb) (backR X)) := ob6
    have HB6 : Hid (Below w.heap.size w w6) := B6
    clear o6 os6 ox6 ob6 B6 hns hnb
    go_wp2_with fail
    go_loopw [10, 11] (fun x10 x11 wy => ∃ k : Nat, k ≤ nb ∧ x11 = .int .i64 k ∧ x10 = .int .i64 (((ord0 (fn X) k).length : Nat) : Int) ∧ Hid (wy = w6)) (fun _ x11 _ => nb - (intOf x11).toNat)
    case atStart => exact ⟨0, Nat.zero_le _, rfl, rfl, rfl⟩
    case round =>
      obtain ⟨k, hk, rfl, rfl, hwy⟩ := hrel
      rename World => wy
      have hwy2 := hwy.out
      subst hwy2
      by_cases hkn : k < nb
      · have hki : (k : Int) < (nb : Int) := by omega
        rcases OX6.out.forms with ⟨e, _⟩ | ⟨gx, cx', e, _, hgx, _, _, _⟩
        · simp only [Value.slice.injEq] at e; omega
        simp only [Value.slice.injEq] at e
        obtain ⟨rfl, -, rfl⟩ := e
        have x1 := OX6.out.cellN k (by have := HNX.out; omega)
        obtain ⟨xv, hxv⟩ : ∃ xv, fn X k = xv := ⟨_, rfl⟩
        rw [hxv] at x1
        have hord : ord0 (fn X) (k + 1) = if 0 ≤ xv then ord0 (fn X) k ++ [(k : Int)] else ord0 (fn X) k := by rw [← hxv]; rfl
        have hol := ord0_len (fn X) k
        obtain ⟨u, hu⟩ : ∃ u, (ord0 (fn X) k).length = u := ⟨_, rfl⟩
        by_cases hneg : xv < 0
        · have HO : Hid ((ord0 (fn X) (k + 1)).length = (ord0 (fn X) k).length) := by unfold Hid; rw [hord, if_neg (by omega)]
          clear hord hxv
          go_wp2_with fail
          go_roundw
          case rel => exact ⟨k + 1, by omega, by go_num, by rw [HO.out], by first | rfl | (unfold Hid; trivial)⟩
          case measure => simp only [intOf]; omega
        · have HO : Hid ((ord0 (fn X) (k + 1)).length = u + 1) := by unfold Hid; rw [hord, if_pos (by omega)]; simp [hu]
          obtain ⟨x, hx1, hx2, hx3⟩ := HRD.out k hkn (by rw [hxv]; omega)
          rw [hxv] at hx3
          have hfn := HIN.out (by omega)
          have hxi : (x : Int) < (ns : Int) := by omega
          rcases OB6.out.forms with ⟨e, _⟩ | ⟨gb, cb', e, _, hgb, _, _, _⟩
          · simp only [Value.slice.injEq] at e; omega
          simp only [Value.slice.injEq] at e
          obtain ⟨rfl, -, rfl⟩ := e
          rcases OS6.out.forms with ⟨e, _⟩ | ⟨gs, cs', e, _, hgs, _, _, _⟩
          · simp only [Value.slice.injEq] at e; omega
          simp only [Value.slice.injEq] at e
          obtain ⟨rfl, -, rfl⟩ := e
          rcases O6.out.forms with ⟨e, _⟩ | ⟨gl, cl', e, _, hgl, _, _, _⟩
          · simp only [Value.slice.injEq] at e; omega
          simp only [Value.slice.injEq] at e
          obtain ⟨rfl, -, rfl⟩ := e
          have x2 := OB6.out.cellN k (by have := HBL.out; omega)
          rw [hx2] at x2
          have x3 := OS6.out.cellN x (by have := HNS.out; omega)
          rw [hx3] at x3
          obtain ⟨q, hq⟩ : ∃ q, f0 + k = q := ⟨_, rfl⟩
          have x4 := O6.out.cellN q (by have := HN.out; omega)
          rw [hq] at x3
          obtain ⟨r, hr⟩ : ∃ r, fn l q = r := ⟨_, rfl⟩
          rw [hr] at x3 x4
          have hqi : (f0 : Int) + (k : Int) = (q : Int) := by omega
          have hqn : (q : Int) < (n : Int) := by omega
          have hwq : IntKind.i64.wrap (q : Int) = (q : Int) := by rw [IntKind.wrap_i64]; omega
          have htm : Int.tmod xv 2 = xv % 2 := Int.tmod_eq_emod_of_nonneg (by omega)
          rw [hu]
          clear hx1 hx2 hx3 hord hxv hr hq
          rcases Int.emod_two_eq xv with hm | hm
          · have hsf : seenF r xv = r := by unfold seenF; rw [if_neg (by omega)]
            rw [hsf] at x3
            rw [hm] at htm
            clear hm hsf
            go_wp2_with fail
            go_roundw
            case rel => exact ⟨k + 1, by omega, by go_num, by rw [HO.out]; go_num, by first | rfl | (unfold Hid; trivial)⟩
            case measure => simp only [intOf]; omega
          · obtain ⟨r2, hr2⟩ : ∃ r2, mirror r = r2 := ⟨_, rfl⟩
            have hsf : seenF r xv = r2 := by rw [← hr2]; unfold seenF; rw [if_pos hm]
            have HMM : Hid (mirror r2 = r) := by rw [← hr2]; exact mirror_mirror r
            rw [hsf] at x3
            rw [hm] at htm
            clear hm hsf hr2
            go_wp2_with (go_at_call 23; refine (implMirror _ _).mono ?_; rintro e w7 ⟨rfl, hw7⟩; rw [HMM.out, hw7]; clear hw7 w7)
            go_roundw
            case rel => exact ⟨k + 1, by omega, by go_num, by rw [HO.out]; go_num, by first | rfl | (unfold Hid; trivial)⟩
            case measure => simp only [intOf]; omega
      · have e : k = nb := by omega
        subst e
        rw [← HCN.out]
        go_wp2_with fail
        go_ret
        exact ⟨rfl, HB6.out⟩
end Go.Proofs.YtgojdlbidjnmmaaGreat
