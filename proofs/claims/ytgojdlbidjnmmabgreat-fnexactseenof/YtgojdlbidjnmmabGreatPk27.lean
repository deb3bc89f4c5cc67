import Derived.Test.YtgojdlbidjnmmabGreatPk26
import Derived.Test.YtgojdlbidjnmmabGreatPk3
import Derived.Test.YtgojdlbidjnmmabGreatPk1
namespace Go.Proofs.YtgojdlbidjnmmabGreat
open Go.ChangeShapes Go.WideShapes Go.ChangeAt Go.RowKit
set_option linter.unusedSimpArgs false

/-- Whether what stands at a place of the order is of such a level. -/
def atLeast (lv o : List Int) (least : Int) (x : Nat) : Bool := decide (least ≤ fn lv (fn o x).toNat)
theorem atLeast_yes {lv o : List Int} {least : Int} {x : Nat} (h : atLeast lv o least x = true) : least ≤ fn lv (fn o x).toNat := by simpa [atLeast] using h
theorem atLeast_no {lv o : List Int} {least : Int} {x : Nat} (h : atLeast lv o least x = false) : ¬ least ≤ fn lv (fn o x).toNat := by simpa [atLeast] using h

set_option maxHeartbeats 8000000 in
theorem specTurn_row (b off cap n bl ofl cpl nl : Nat) (o lv : List Int) (least : Int) (w : World) (hn : o.length = n) (hnl : lv.length = nl) (hl : n ≤ 1048576) (hb : b < w.heap.size) (hat : At w b off o) (hbl : bl < w.heap.size) (hatl : At w bl ofl lv) (hin : Hid (∀ x, x < n → 0 ≤ fn o x ∧ fn o x < (nl : Int))) :
    Calls Tryz.prog 20 #[.slice (some ⟨b, off, none⟩) n cap, .slice (some ⟨bl, ofl, none⟩) nl cpl, .int .i64 least] w fun e w' => (∃ v, e = .returned v ∧ OwnI w' w.heap.size v (turned (atLeast lv o least) o)) ∧ Below w.heap.size w w' := by
  obtain ⟨q, hq⟩ : ∃ q, atLeast lv o least = q := ⟨_, rfl⟩
  have HQ : Hid _ := hq
  clear hq
  go_enter Tryz.func20, Tryz.ntmps20
  go_wp2
  go_loopw [7, 8] (fun v i wr => ∃ (k : Nat) (O : List Int), k ≤ n ∧ i = .int .i64 k ∧ OwnI wr w.heap.size v O ∧ O.length = k ∧ Hid ((∀ x, x < k → fn O x = turnAt q o x) ∧ (k = 0 ∨ q (k - 1) = false ∨ k = n ∨ q k = false)) ∧ Below w.heap.size w wr) (fun _ i _ => n - (intOf i).toNat)
  case atStart => exact ⟨0, [], Nat.zero_le _, rfl, own_empty _ _ _ (Nat.le_refl _) rfl, rfl, ⟨fun x hx => by omega, .inl rfl⟩, by go_grown⟩
  case round =>
    obtain ⟨i, O, hi, rfl, hown, hOl, hinv, hbel⟩ := hrel
    by_cases hlt : i < n
    · go_wp2
      go_loop [9] (fun a => ∃ k : Nat, i ≤ k ∧ k ≤ n ∧ a = .int .i64 k ∧ Hid (∀ y, i ≤ y → y < k → q y = true)) (fun a => n - (intOf a).toNat)
      case atStart => exact ⟨i, Nat.le_refl _, by omega, rfl, fun y a b => by omega⟩
      case round =>
        obtain ⟨k, hk1, hk2, rfl, hkq⟩ := hrel
        by_cases hkn : k < n
        · have hc1 : wr.cell? ⟨b, off + k, none⟩ = some (.int .i64 (fn o k)) := (hat.below hbel hb) k (by omega)
          obtain ⟨y, hy⟩ : ∃ y : Nat, fn o k = (y : Int) := ⟨(fn o k).toNat, by have := (hin.out k hkn).1; omega⟩
          have hyn : y < nl := by have := (hin.out k hkn).2; omega
          have hc2 : wr.cell? ⟨bl, ofl + y, none⟩ = some (.int .i64 (fn lv y)) := (hatl.below hbel hbl) y (by omega)
          have HL : Hid (q k = decide (least ≤ fn lv y)) := by
            show q k = decide (least ≤ fn lv y)
            rw [← HQ.out]; unfold atLeast; rw [hy]; simp
          rw [hy] at hc1
          have hyi : (y : Int) < (nl : Int) := by omega
          clear hy
          by_cases hle : least ≤ fn lv y
          · go_wp2_with fail
            go_round
            case rel =>
              refine ⟨k + 1, by omega, by omega, by go_num, fun z a c => ?_⟩
              by_cases e : z = k
              · subst e; rw [HL.out]; simpa using hle
              · exact hkq.out z a (by omega)
            case measure => simp only [intOf]; omega
          · have HN : Hid (q k = false) := by show q k = false; rw [HL.out]; simpa using hle
            have hbk : Hid (k = n ∨ q k = false) := .inr HN.out
            go_wp2_with fail
            go_loopw [7, 10] (fun v a wr2 => ∃ (c : Nat) (O2 : List Int), c ≤ k - i ∧ a = .int .i64 ((k : Int) - 1 - (c : Int)) ∧ OwnI wr2 w.heap.size v O2 ∧ O2.length = i + c ∧ Hid (∀ x, x < i + c → fn O2 x = turnAt q o x) ∧ Below w.heap.size w wr2) (fun _ a _ => (intOf a - i + 1).toNat)
            case atStart => exact ⟨0, O, Nat.zero_le _, by go_num, hown, by omega, fun x hx => hinv.out.1 x (by omega), hbel⟩
            case round =>
              obtain ⟨c, O2, hc, rfl, hown2, hO2, hinv2, hbel2⟩ := hrel
              have hsz2 := hbel2.size
              by_cases hck : c < k - i
              · obtain ⟨y, hy⟩ : ∃ y, y = k - 1 - c := ⟨_, rfl⟩
                have hyi : (k : Int) - 1 - (c : Int) = (y : Int) := by omega
                rw [hyi]
                have hcy : wr.cell? ⟨b, off + y, none⟩ = some (.int .i64 (fn o y)) := (hat.below hbel2 hb) y (by omega)
                have hyn : (y : Int) < (n : Int) := by omega
                have hiy : (i : Int) ≤ (y : Int) := by omega
                have HT : Hid (turnAt q o (i + c) = fn o y) := by
                  show turnAt q o (i + c) = fn o y
                  have hst : i = 0 ∨ q (i - 1) = false := by
                    rcases hinv.out.2 with h | h | h | h
                    · exact .inl h
                    · exact .inr h
                    · omega
                    · have := hkq.out i (Nat.le_refl _) (by omega); rw [h] at this; cases this
                  rw [turn_in (s := i) (e := k) (by omega) (by omega) (by omega) hkq.out hst (by rw [hn]; exact hbk.out)]
                  congr 1; omega
                have HY : Hid _ := hy
                clear hy hyi
                go_wp2_with (at_builtin; refine own_append (.tmp 41) (.tmp 46) hown2 (by omega) hsz2 rfl rfl rfl rfl ?_; intro v' w5 hown5 hgr5)
                go_roundw
                case rel =>
                  refine ⟨c + 1, O2 ++ [fn o y], by omega, by have := HY.out; go_num, hown5, by simp; omega, fun x hx => ?_, grown_below hbel2 hgr5 hown2 (Nat.le_refl _) hsz2⟩
                  by_cases e : x = i + c
                  · subst e; rw [← hO2]; rw [show fn (O2 ++ [fn o y]) O2.length = fn o y by simp [fn]]; rw [hO2]; exact HT.out.symm
                  · rw [fn_append_left (by omega)]; exact hinv2.out x (by omega)
                case measure => have := HY.out; simp only [intOf]; omega
              · have ec : c = k - i := by omega
                have hge : ¬ (i : Int) ≤ (k : Int) - 1 - (c : Int) := by omega
                by_cases hki : k = i
                · subst hki
                  have hci : wr.cell? ⟨b, off + k, none⟩ = some (.int .i64 (fn o k)) := (hat.below hbel2 hb) k (by omega)
                  have hki2 : (k : Int) < (n : Int) := by omega
                  have HT : Hid (turnAt q o k = fn o k) := turn_out (hbk.out.resolve_left (by omega))
                  go_wp2_with (at_builtin; refine own_append (.tmp 51) (.tmp 56) hown2 (by omega) hsz2 rfl rfl rfl rfl ?_; intro v' w5 hown5 hgr5)
                  go_roundw
                  case rel =>
                    refine ⟨k + 1, O2 ++ [fn o k], by omega, by go_num, hown5, by simp; omega, ⟨fun x hx => ?_, ?_⟩, grown_below hbel2 hgr5 hown2 (Nat.le_refl _) hsz2⟩
                    · by_cases e : x = k
                      · subst e
                        have hO3 : O2.length = x := by omega
                        rw [← hO3]; rw [show fn (O2 ++ [fn o O2.length]) O2.length = fn o O2.length by simp [fn]]; rw [hO3]; exact HT.out.symm
                      · rw [fn_append_left (by omega)]; exact hinv2.out x (by omega)
                    · right; left; rw [Nat.add_sub_cancel]; rcases hbk.out with h | h
                      · omega
                      · exact h
                  case measure => simp only [intOf]; omega
                · have hkb : ((k : Int) == (i : Int)) = false := by simp; omega
                  go_wp2_with fail
                  go_roundw
                  case rel =>
                    refine ⟨k, O2, by omega, rfl, hown2, by omega, ⟨fun x hx => hinv2.out x (by omega), ?_⟩, hbel2⟩
                    right; right; exact hbk.out
                  case measure => simp only [intOf]; omega
        · have hbk : Hid (k = n ∨ q k = false) := .inl (by omega)
          go_wp2_with fail
          go_loopw [7, 10] (fun v a wr2 => ∃ (c : Nat) (O2 : List Int), c ≤ k - i ∧ a = .int .i64 ((k : Int) - 1 - (c : Int)) ∧ OwnI wr2 w.heap.size v O2 ∧ O2.length = i + c ∧ Hid (∀ x, x < i + c → fn O2 x = turnAt q o x) ∧ Below w.heap.size w wr2) (fun _ a _ => (intOf a - i + 1).toNat)
          case atStart => exact ⟨0, O, Nat.zero_le _, by go_num, hown, by omega, fun x hx => hinv.out.1 x (by omega), hbel⟩
          case round =>
            obtain ⟨c, O2, hc, rfl, hown2, hO2, hinv2, hbel2⟩ := hrel
            have hsz2 := hbel2.size
            by_cases hck : c < k - i
            · obtain ⟨y, hy⟩ : ∃ y, y = k - 1 - c := ⟨_, rfl⟩
              have hyi : (k : Int) - 1 - (c : Int) = (y : Int) := by omega
              rw [hyi]
              have hcy : wr.cell? ⟨b, off + y, none⟩ = some (.int .i64 (fn o y)) := (hat.below hbel2 hb) y (by omega)
              have hyn : (y : Int) < (n : Int) := by omega
              have hiy : (i : Int) ≤ (y : Int) := by omega
              have HT : Hid (turnAt q o (i + c) = fn o y) := by
                show turnAt q o (i + c) = fn o y
                have hst : i = 0 ∨ q (i - 1) = false := by
                  rcases hinv.out.2 with h | h | h | h
                  · exact .inl h
                  · exact .inr h
                  · omega
                  · have := hkq.out i (Nat.le_refl _) (by omega); rw [h] at this; cases this
                rw [turn_in (s := i) (e := k) (by omega) (by omega) (by omega) hkq.out hst (by rw [hn]; exact hbk.out)]
                congr 1; omega
              have HY : Hid _ := hy
              clear hy hyi
              go_wp2_with (at_builtin; refine own_append (.tmp 41) (.tmp 46) hown2 (by omega) hsz2 rfl rfl rfl rfl ?_; intro v' w5 hown5 hgr5)
              go_roundw
              case rel =>
                refine ⟨c + 1, O2 ++ [fn o y], by omega, by have := HY.out; go_num, hown5, by simp; omega, fun x hx => ?_, grown_below hbel2 hgr5 hown2 (Nat.le_refl _) hsz2⟩
                by_cases e : x = i + c
                · subst e; rw [← hO2]; rw [show fn (O2 ++ [fn o y]) O2.length = fn o y by simp [fn]]; rw [hO2]; exact HT.out.symm
                · rw [fn_append_left (by omega)]; exact hinv2.out x (by omega)
              case measure => have := HY.out; simp only [intOf]; omega
            · have ec : c = k - i := by omega
              have hge : ¬ (i : Int) ≤ (k : Int) - 1 - (c : Int) := by omega
              by_cases hki : k = i
              · exfalso; omega
              · have hkb : ((k : Int) == (i : Int)) = false := by simp; omega
                go_wp2_with fail
                go_roundw
                case rel =>
                  refine ⟨k, O2, by omega, rfl, hown2, by omega, ⟨fun x hx => hinv2.out x (by omega), ?_⟩, hbel2⟩
                  right; right; exact hbk.out
                case measure => simp only [intOf]; omega
    · have e : i = n := by omega
      subst e
      go_wp2_with fail
      go_ret
      have el : O = turned q o := ext_fn (by rw [turned_len]; omega) (fun x hx => by rw [fn_turned (by omega)]; exact hinv.out.1 x (by omega))
      rw [el, ← HQ.out] at hown
      exact ⟨⟨_, rfl, hown⟩, hbel⟩
end Go.Proofs.YtgojdlbidjnmmabGreat
namespace Go.Proofs.YtgojdlbidjnmmabGreat
open Go.ChangeShapes Go.WideShapes Go.ChangeAt Go.RowKit
set_option linter.unusedSimpArgs false

def lvl (r : Int) : Bool := decide (-1 ≤ r ∧ r ≤ 22)
def allV (p : Nat → Bool) : Nat → Bool
  | 0 => true
  | k + 1 => allV p k && p k
theorem allV_iff (p : Nat → Bool) (n : Nat) : allV p n = true ↔ ∀ j, j < n → p j = true := by
  induction n with
  | zero => simp [allV]
  | succ n ih =>
    simp only [allV, Bool.and_eq_true, ih]
    constructor
    · intro h j hj
      by_cases e : j = n
      · subst e; exact h.2
      · exact h.1 j (by omega)
    · intro h; exact ⟨fun j hj => h j (by omega), h n (by omega)⟩
theorem allV_false {p : Nat → Bool} {n k : Nat} (hk : k < n) (h : p k = false) : allV p n = false := by
  rw [Bool.eq_false_iff]; intro a; rw [allV_iff] at a; have := a k hk; rw [h] at this; cases this

def lvF (z : Nat → Int) (len : Nat) : Bool := decide (len ≤ 80) && allV (fun j => lvl (z j)) len
def inV (n lo hi : Int) : Bool := decide (lo ≤ n ∧ n ≤ hi)
set_option maxHeartbeats 1000000 in
theorem specInV (n lo hi : Int) (w : World) : Calls Tryz.prog 17 #[.int .i64 n, .int .i64 lo, .int .i64 hi] w fun e w' => e = .returned (.bool (inV n lo hi)) ∧ w' = w := by
  go_enter Tryz.func17, Tryz.ntmps17
  go_wp2
  all_goals (go_ret; refine ⟨retBool ?_, rfl⟩)
  all_goals (simp [inV])
  all_goals omega

theorem lvF_all {z : Nat → Int} {n : Nat} (h : ∀ j, j < n → lvl (z j) = true) : lvF z n = decide (n ≤ 80) := by
  have : allV (fun j => lvl (z j)) n = true := (allV_iff _ _).2 h
  simp [lvF, this]
theorem lvF_no {z : Nat → Int} {n k : Nat} (hk : k < n) (h : lvl (z k) = false) : lvF z n = false := by
  simp [lvF, allV_false (p := fun j => lvl (z j)) hk h]
theorem lvF_long {z : Nat → Int} {n : Nat} (h : 80 < n) : lvF z n = false := by
  simp [lvF]; omega
theorem lvF_len {z : Nat → Int} {n : Nat} (h : lvF z n = true) : n ≤ 80 := by
  simp [lvF] at h; omega
theorem lvF_get {z : Nat → Int} {n : Nat} (h : lvF z n = true) {j : Nat} (hj : j < n) : lvl (z j) = true := by
  simp only [lvF, Bool.and_eq_true] at h; exact (allV_iff _ _).1 h.2 j hj

set_option maxHeartbeats 1000000 in
theorem implLv (v : Value) (l : List Int) (w : World) (hv : Arg w v l) (hl : l.length ≤ 4194304) :
    Calls Tryz.prog 27 #[v] w fun e w' => e = .returned (.bool (lvF (fn l) l.length)) ∧ w' = w := by
  rcases hv with ⟨a0, c0, rfl, rfl⟩ | ⟨b, off, cap, rfl, hb, hlc, hcm, hat⟩
  · go_enter Tryz.func27, Tryz.ntmps27
    go_wp2
    go_rounds 1
    go_ret
    exact ⟨rfl, rfl⟩
  · obtain ⟨n, hn⟩ : ∃ n, l.length = n := ⟨_, rfl⟩
    rw [hn] at hl ⊢
    by_cases h80 : 80 < n
    · go_enter Tryz.func27, Tryz.ntmps27
      go_wp2
      go_ret
      exact ⟨retBool (lvF_long h80).symm, rfl⟩
    · go_enter Tryz.func27, Tryz.ntmps27
      go_wp2
      go_loop [10] (fun i => ∃ k : Nat, k ≤ n ∧ i = .int .i64 k ∧ Hid (∀ j, j < k → lvl (fn l j) = true)) (fun i => n - (intOf i).toNat)
      case atStart => exact ⟨0, Nat.zero_le _, rfl, fun j hj => by omega⟩
      case round =>
        obtain ⟨k, hk, rfl, hok⟩ := hrel
        by_cases hlt : k < n
        · have hcell : w.cell? ⟨b, off + k, none⟩ = some (.int .i64 (fn l k)) := hat k (by omega)
          go_wp2
          all_goals first
            | (go_ret; exact ⟨retBool (lvF_no hlt (by simp only [lvl, decide_eq_false_iff_not]; omega)).symm, rfl⟩)
            | (refine ⟨⟨k + 1, by omega, by go_num, fun j hj => ?_⟩, by simp only [intOf]; omega⟩
               by_cases ej : j = k
               · subst ej; simp only [lvl, decide_eq_true_eq]; omega
               · exact hok.out j (by omega))
        · have e : k = n := by omega
          subst e
          go_wp2
          go_ret
          refine ⟨retBool ?_, rfl⟩
          rw [lvF_all hok.out]
          simp; omega
end Go.Proofs.YtgojdlbidjnmmabGreat
namespace Go.Proofs.YtgojdlbidjnmmabGreat
open Go.ChangeShapes Go.WideShapes Go.ChangeAt Go.RowKit
set_option linter.unusedSimpArgs false

def ord0 (z : Nat → Int) : Nat → List Int
  | 0 => []
  | k + 1 => if 0 ≤ z k then ord0 z k ++ [(k : Int)] else ord0 z k
def mostF (z : Nat → Int) : Nat → Int
  | 0 => 0
  | k + 1 => if mostF z k < z k then z k else mostF z k
def ordN (lv : List Int) : Nat → List Int → List Int
  | 0, o => o
  | m + 1, o => ordN lv m (turned (atLeast lv o ((m : Int) + 1)) o)
def orderL (lv : List Int) : List Int := ordN lv (mostF (fn lv) lv.length).toNat (ord0 (fn lv) lv.length)
/-- The places of an order lie below n. -/
def InnO (n : Nat) (o : List Int) : Prop := ∀ x, x < o.length → 0 ≤ fn o x ∧ fn o x < (n : Int)
theorem ord0_len (z : Nat → Int) (k : Nat) : (ord0 z k).length ≤ k := by
  induction k with
  | zero => simp [ord0]
  | succ k ih => simp only [ord0]; split
                 · simp; omega
                 · omega
theorem inn_snoc {n : Nat} {o : List Int} (h : InnO n o) {x : Int} (h0 : 0 ≤ x) (h1 : x < (n : Int)) : InnO n (o ++ [x]) := by
  intro y hy
  simp at hy
  by_cases e : y = o.length
  · subst e; rw [show fn (o ++ [x]) o.length = x by simp [fn]]; exact ⟨h0, h1⟩
  · rw [fn_append_left (by omega)]; exact h y (by omega)
theorem ord0_inn (z : Nat → Int) (k n : Nat) (h : k ≤ n) : InnO n (ord0 z k) := by
  induction k with
  | zero => intro x hx; simp [ord0] at hx
  | succ k ih =>
    simp only [ord0]; split
    · exact inn_snoc (ih (by omega)) (by omega) (by omega)
    · exact ih (by omega)
theorem inn_turned {n : Nat} {o : List Int} (h : InnO n o) (q : Nat → Bool) : InnO n (turned q o) := by
  intro x hx
  rw [turned_len] at hx
  rw [fn_turned hx]
  obtain ⟨y, h1, h2⟩ := turn_mem (q := q) hx
  rw [h2]; exact h y h1
theorem ordN_len (lv : List Int) (m : Nat) (o : List Int) : (ordN lv m o).length = o.length := by
  induction m generalizing o with
  | zero => rfl
  | succ m ih => simp only [ordN]; rw [ih, turned_len]
theorem mostF_bounds {z : Nat → Int} {n : Nat} (h : ∀ j, j < n → z j ≤ 22) (k : Nat) (hk : k ≤ n) : 0 ≤ mostF z k ∧ mostF z k ≤ 22 := by
  induction k with
  | zero => simp [mostF]
  | succ k ih => have := ih (by omega); have := h k (by omega); simp only [mostF]; split <;> omega
theorem turned_nil (q : Nat → Bool) : turned q [] = [] := rfl

set_option maxHeartbeats 1000000 in
theorem specTurn_any (v : Value) (bl ofl cpl nl : Nat) (o lv : List Int) (least : Int) (w : World) (hv : Arg w v o) (hnl : lv.length = nl) (hl : o.length ≤ 1048576) (hbl : bl < w.heap.size) (hatl : At w bl ofl lv) (hin : Hid (InnO nl o)) :
    Calls Tryz.prog 20 #[v, .slice (some ⟨bl, ofl, none⟩) nl cpl, .int .i64 least] w fun e w' => (∃ v, e = .returned v ∧ OwnI w' w.heap.size v (turned (atLeast lv o least) o)) ∧ Below w.heap.size w w' := by
  rcases hv with ⟨a0, c0, rfl, rfl⟩ | ⟨b, off, cap, rfl, hb, hlc, hcm, hat⟩
  · go_enter Tryz.func20, Tryz.ntmps20
    go_wp2
    go_rounds 1
    go_ret
    exact ⟨⟨_, rfl, own_empty _ _ _ (Nat.le_refl _) rfl⟩, by go_grown⟩
  · exact specTurn_row b off cap o.length bl ofl cpl nl o lv least w rfl hnl hl hb hat hbl hatl hin

set_option maxHeartbeats 4000000 in
theorem specOrder_any (v : Value) (lv : List Int) (w : World) (hv : Arg w v lv) (hl : lv.length ≤ 1048576) (hb22 : Hid (∀ j, j < lv.length → fn lv j ≤ 22)) :
    Calls Tryz.prog 11 #[v] w fun e w' => (∃ v', e = .returned v' ∧ OwnI w' w.heap.size v' (orderL lv)) ∧ Below w.heap.size w w' := by
  rcases hv with ⟨a0, c0, rfl, rfl⟩ | ⟨b, off, cap, rfl, hb, hlc, hcm, hat⟩
  · go_enter Tryz.func11, Tryz.ntmps11
    go_wp2
    go_rounds 1
    go_rounds 1
    go_ret
    exact ⟨⟨_, rfl, own_empty _ _ _ (Nat.le_refl _) rfl⟩, by go_grown⟩
  · obtain ⟨n, hn⟩ : ∃ n, lv.length = n := ⟨_, rfl⟩
    have HF : Hid (orderL lv = ordN lv (mostF (fn lv) n).toNat (ord0 (fn lv) n)) := by show orderL lv = _; unfold orderL; rw [hn]
    rw [hn] at hl hb22 ⊢
    go_enter Tryz.func11, Tryz.ntmps11
    go_wp2
    go_loopw [3, 4, 5] (fun q ms i wr => ∃ (k : Nat) (mm : Int), k ≤ n ∧ i = .int .i64 k ∧ ms = .int .i64 mm ∧ Hid (mm = mostF (fn lv) k) ∧ OwnI wr w.heap.size q (ord0 (fn lv) k) ∧ Below w.heap.size w wr) (fun _ _ i _ => n - (intOf i).toNat)
    case atStart => exact ⟨0, 0, Nat.zero_le _, rfl, rfl, rfl, own_empty _ _ _ (Nat.le_refl _) rfl, by go_grown⟩
    case round =>
      obtain ⟨k, mm, hk, rfl, rfl, hmm, hown, hbel⟩ := hrel
      have hsz := hbel.size
      by_cases hlt : k < n
      · have hcell : wr.cell? ⟨b, off + k, none⟩ = some (.int .i64 (fn lv k)) := (hat.below hbel hb) k (by omega)
        have hle := ord0_len (fn lv) k
        by_cases h0 : 0 ≤ fn lv k
        · have HO : Hid (ord0 (fn lv) (k + 1) = ord0 (fn lv) k ++ [(k : Int)]) := by show ord0 _ _ = _; simp [ord0, h0]
          by_cases hg : mm < fn lv k
          · have HM : Hid (mostF (fn lv) (k + 1) = fn lv k) := by show mostF _ _ = _; have := hmm.out; simp only [mostF]; rw [if_pos (by omega)]
            go_wp2_with (at_builtin; refine own_append (.tmp 19) (.tmp 21) hown (by omega) hsz rfl rfl rfl rfl ?_; intro v' w5 hown5 hgr5; have hbel5 := grown_below hbel hgr5 hown (Nat.le_refl _) hsz; have hcell5 := (hat.below hbel5 hb) k (by omega))
            go_roundw
            case rel => exact ⟨k + 1, fn lv k, by omega, by go_num, rfl, HM.out.symm, by rw [HO.out]; exact hown5, hbel5⟩
            case measure => simp only [intOf]; omega
          · have HM : Hid (mostF (fn lv) (k + 1) = mm) := by show mostF _ _ = _; have := hmm.out; simp only [mostF]; rw [if_neg (by omega)]; omega
            go_wp2_with (at_builtin; refine own_append (.tmp 19) (.tmp 21) hown (by omega) hsz rfl rfl rfl rfl ?_; intro v' w5 hown5 hgr5; have hbel5 := grown_below hbel hgr5 hown (Nat.le_refl _) hsz; have hcell5 := (hat.below hbel5 hb) k (by omega))
            go_roundw
            case rel => exact ⟨k + 1, mm, by omega, by go_num, rfl, HM.out.symm, by rw [HO.out]; exact hown5, hbel5⟩
            case measure => simp only [intOf]; omega
        · have HO : Hid (ord0 (fn lv) (k + 1) = ord0 (fn lv) k) := by show ord0 _ _ = _; simp [ord0, h0]
          have hmb := mostF_bounds hb22.out k (by omega)
          rw [← hmm.out] at hmb
          have HM : Hid (mostF (fn lv) (k + 1) = mm) := by show mostF _ _ = _; have := hmm.out; simp only [mostF]; rw [if_neg (by omega)]; omega
          go_wp2_with fail
          go_roundw
          case rel => exact ⟨k + 1, mm, by omega, by go_num, rfl, HM.out.symm, by rw [HO.out]; exact hown, hbel⟩
          case measure => simp only [intOf]; omega
      · have e : k = n := by omega
        subst e
        have hmb := mostF_bounds hb22.out k (Nat.le_refl _)
        rw [← hmm.out] at hmb HF
        obtain ⟨M, hM⟩ : ∃ M : Nat, mm = (M : Int) := ⟨mm.toNat, by omega⟩
        subst hM
        rw [Int.toNat_natCast] at HF
        have hoin := ord0_inn (fn lv) k k (Nat.le_refl _)
        have hole := ord0_len (fn lv) k
        have HOI : Hid _ := hoin
        clear hoin
        go_wp2_with fail
        go_loopw [3, 6] (fun q i wr => ∃ (m : Nat) (O : List Int), m ≤ 22 ∧ i = .int .i64 m ∧ OwnI wr w.heap.size q O ∧ O.length ≤ k ∧ Hid (InnO k O ∧ ordN lv m O = orderL lv) ∧ Below w.heap.size w wr) (fun _ i _ => (intOf i).toNat)
        case atStart => exact ⟨M, _, by omega, rfl, hown, hole, ⟨HOI.out, HF.out.symm⟩, hbel⟩
        case round =>
          obtain ⟨m, O, hm, rfl, hownO, hOl, hinv, hbelO⟩ := hrel
          by_cases hm0 : m = 0
          · subst hm0
            go_wp2_with fail
            go_ret
            exact ⟨⟨_, rfl, by rw [← hinv.out.2]; exact hownO⟩, hbelO⟩
          · obtain ⟨j, rfl⟩ : ∃ j, m = j + 1 := ⟨m - 1, by omega⟩
            go_wp2_with fail
            refine (specTurn_any _ b off cap k O lv _ _ hownO.arg hn (by omega) (Nat.lt_of_lt_of_le hb hbelO.size) (hat.below hbelO hb) hinv.out.1).mono ?_
            rintro e w6 ⟨⟨v6, rfl, o6⟩, b6⟩
            go_wp2_with fail
            go_roundw
            case rel =>
              refine ⟨j, _, by omega, by go_num, o6.mono hbelO.size, by rw [turned_len]; exact hOl, ⟨inn_turned hinv.out.1 _, ?_⟩, bstep hbelO b6⟩
              rw [← hinv.out.2]; rfl
            case measure => simp only [intOf]; omega
end Go.Proofs.YtgojdlbidjnmmabGreat
namespace Go.Proofs.YtgojdlbidjnmmabGreat
open Go.ChangeShapes Go.WideShapes Go.ChangeAt Go.RowKit
set_option linter.unusedSimpArgs false

theorem OwnI.drew {w : World} {v : Value} {l : List Int} {B : Nat} (h : OwnI w B v l) : OwnI w.drew B v l := h
theorem grown_setV {a w : World} {g : Nat} (h : a.grownBy w (some g)) (j : Nat) (x : Value) : a.grownBy (w.setCell ⟨g, j, none⟩ x) (some g) :=
  ⟨h.os, h.tape, h.output, by simpa using h.size, fun i hi hne => (heap_setCell_other w ⟨g, j, none⟩ i x (fun e => hne (by rw [e]))).trans (h.block i hi hne)⟩
theorem grown_drew {a w : World} {row : Option Nat} (h : a.grownBy w row) : a.grownBy w.drew row := ⟨h.os, h.tape, h.output, h.size, h.block⟩
theorem rev_step {L M : List Int} {i m k n x : Nat} (hM : ∀ x, x < n → fn M x = revAt L i m k x) (hn : M.length = n) (him : i + m ≤ n) (hk : k < m - 1 - k) (hm : 1 ≤ m) (hx : x < n) :
    fn ((M.set (i + k) (fn M (i + (m - 1 - k)))).set (i + (m - 1 - k)) (fn M (i + k))) x = revAt L i m (k + 1) x := by
  have e1 := hM (i + k) (by omega)
  have e2 := hM (i + (m - 1 - k)) (by omega)
  have r1 : revAt L i m k (i + k) = fn L (i + k) := by unfold revAt; rw [if_neg (by omega)]
  have r2 : revAt L i m k (i + (m - 1 - k)) = fn L (i + (m - 1 - k)) := by unfold revAt; rw [if_neg (by omega)]
  by_cases a : x = i + (m - 1 - k)
  · subst a
    rw [fn_set_same (by simp; omega), e1, r1]
    unfold revAt; rw [if_pos (by omega)]; congr 1; omega
  · rw [fn_set_other (by omega)]
    by_cases b : x = i + k
    · subst b
      rw [fn_set_same (by omega), e2, r2]
      unfold revAt; rw [if_pos (by omega)]; congr 1; omega
    · rw [fn_set_other (by omega), hM x hx]
      unfold revAt
      by_cases c : (i ≤ x ∧ x < i + k) ∨ (i + m - k ≤ x ∧ x < i + m)
      · rw [if_pos c, if_pos (by omega)]
      · rw [if_neg c, if_neg (by omega)]
theorem rev_end {L : List Int} {i m k x : Nat} (hk : ¬ (k : Int) < (m : Int) - 1 - k) (hk2 : 2 * k ≤ m) : revAt L i m k x = if i ≤ x ∧ x < i + m then fn L (2 * i + m - 1 - x) else fn L x := by
  unfold revAt
  by_cases c : i ≤ x ∧ x < i + m
  · rw [if_pos c]
    by_cases d : (i ≤ x ∧ x < i + k) ∨ (i + m - k ≤ x ∧ x < i + m)
    · rw [if_pos d]
    · rw [if_neg d]; congr 1; omega
  · rw [if_neg c, if_neg (by omega)]

set_option maxHeartbeats 4000000 in
theorem reverse_any (g i m n cp cq B : Nat) (L : List Int) (w : World) (h : OwnI w B (.slice (some ⟨g, 0, none⟩) n cp) L) (him : i + m ≤ n) (hn : n ≤ 1048576) :
    Calls Tryz.prog 49 #[.slice (some ⟨g, i, none⟩) m cq] w fun e w' => e = .returned (.tuple #[]) ∧ (∃ M, OwnI w' B (.slice (some ⟨g, 0, none⟩) n cp) M ∧ Hid (∀ x, x < n → fn M x = if i ≤ x ∧ x < i + m then fn L (2 * i + m - 1 - x) else fn L x)) ∧ w.grownBy w' (some g) ∧ w'.heap.size = w.heap.size := by
  go_enter Tryz.func49, Tryz.ntmps49
  go_wp2
  go_loopw [2, 3] (fun a b wr => ∃ (k : Nat) (M : List Int), 2 * k ≤ m ∧ a = .int .i64 k ∧ b = .int .i64 ((m : Int) - 1 - k) ∧ OwnI wr B (.slice (some ⟨g, 0, none⟩) n cp) M ∧ Hid (∀ x, x < n → fn M x = revAt L i m k x) ∧ w.grownBy wr (some g) ∧ Hid (wr.heap.size = w.heap.size)) (fun a _ _ => m - (intOf a).toNat)
  case atStart => exact ⟨0, L, by omega, rfl, by go_num, h, fun x _ => by unfold revAt; rw [if_neg (by omega)], ⟨rfl, rfl, rfl, Nat.le_refl _, fun _ _ _ => rfl⟩, rfl⟩
  case round =>
    obtain ⟨k, M, hk, rfl, rfl, hown, hM, hgr, hsz⟩ := hrel
    by_cases hlt : (k : Int) < (m : Int) - 1 - k
    · obtain ⟨j, hj⟩ : ∃ j, j = m - 1 - k := ⟨_, rfl⟩
      have hji : (m : Int) - 1 - k = (j : Int) := by omega
      rw [hji]
      rw [hji] at hlt
      have f1 : wr.frozen? ⟨g, i + k, none⟩ = false := hown.frozenN _
      have f2 : wr.frozen? ⟨g, i + j, none⟩ = false := hown.frozenN _
      have c1 : wr.cell? ⟨g, i + k, none⟩ = some (.int .i64 (fn M (i + k))) := hown.cellN _ (by omega)
      have c2 : wr.cell? ⟨g, i + j, none⟩ = some (.int .i64 (fn M (i + j))) := hown.cellN _ (by omega)
      have hkm : (k : Int) < (m : Int) := by omega
      have hjm : (j : Int) < (m : Int) := by omega
      have HJ : Hid _ := hj
      clear hj hji
      go_wp2
      go_region
      go_wp2
      go_roundw
      case rel =>
        have hl := hown.len
        refine ⟨k + 1, (M.set (i + k) (fn M (i + j))).set (i + j) (fn M (i + k)), by have := HJ.out; omega, by go_num, by have := HJ.out; go_num, ((hown.storedN (i + k) (fn M (i + j))).storedN (i + j) (fn M (i + k))).drew, fun x hx => ?_, grown_drew (grown_setV (grown_setV hgr _ _) _ _), ?_⟩
        · have e := HJ.out
          subst e
          exact rev_step hM.out hl him (by omega) (by omega) hx
        · show (World.drew _).heap.size = w.heap.size
          simp
          exact hsz.out
      case measure => simp only [intOf]; omega
    · go_wp2
      go_end0
      refine ⟨rfl, ⟨M, hown, fun x hx => ?_⟩, hgr, hsz.out⟩
      rw [hM.out x hx]; exact rev_end (by omega) hk
end Go.Proofs.YtgojdlbidjnmmabGreat
