import Derived.Test.YtbjcdogbhnadkacSpecTurn
import Derived.Test.YtbjcdogbhnadkacLvOk
namespace Go.Proofs.Ytbjcdogbhnadkac
open Go.ChangeShapes Go.WideShapes Go.ChangeAt Go.RowKit
set_option linter.unusedSimpArgs false

def ord0 (z : Nat → Int) : Nat → List Int
  | 0 => []
  | k + 1 => if 0 ≤ z k then ord0 z k ++ [(k : Int)] else ord0 z k
def mostF (z : Nat → Int) : Nat → Int
  | 0 => 0
  | k + 1 => if mostF z k < z k then z k else mostF z k
def ordN (lv : List Int) : Nat → List Int → List Int
  | 0, o => o
  | m + 1, o => ordN lv m (turned (atLeast lv o ((m : Int) + 1)) o)
def orderL (lv : List Int) : List Int := ordN lv (mostF (fn lv) lv.length).toNat (ord0 (fn lv) lv.length)
/-- The places of an order lie below n. -/
def Inn (n : Nat) (o : List Int) : Prop := ∀ x, x < o.length → 0 ≤ fn o x ∧ fn o x < (n : Int)
theorem ord0_len (z : Nat → Int) (k : Nat) : (ord0 z k).length ≤ k := by
  induction k with
  | zero => simp [ord0]
  | succ k ih => simp only [ord0]; split
                 · simp; omega
                 · omega
theorem inn_snoc {n : Nat} {o : List Int} (h : Inn n o) {x : Int} (h0 : 0 ≤ x) (h1 : x < (n : Int)) : Inn n (o ++ [x]) := by
  intro y hy
  simp at hy
  by_cases e : y = o.length
  · subst e; rw [show fn (o ++ [x]) o.length = x by simp [fn]]; exact ⟨h0, h1⟩
  · rw [fn_append_left (by omega)]; exact h y (by omega)
theorem ord0_inn (z : Nat → Int) (k n : Nat) (h : k ≤ n) : Inn n (ord0 z k) := by
  induction k with
  | zero => intro x hx; simp [ord0] at hx
  | succ k ih =>
    simp only [ord0]; split
    · exact inn_snoc (ih (by omega)) (by omega) (by omega)
    · exact ih (by omega)
theorem inn_turned {n : Nat} {o : List Int} (h : Inn n o) (q : Nat → Bool) : Inn n (turned q o) := by
  intro x hx
  rw [turned_len] at hx
  rw [fn_turned hx]
  obtain ⟨y, h1, h2⟩ := turn_mem (q := q) hx
  rw [h2]; exact h y h1
theorem ordN_len (lv : List Int) (m : Nat) (o : List Int) : (ordN lv m o).length = o.length := by
  induction m generalizing o with
  | zero => rfl
  | succ m ih => simp only [ordN]; rw [ih, turned_len]
theorem mostF_bounds {z : Nat → Int} {n : Nat} (h : ∀ j, j < n → z j ≤ 22) (k : Nat) (hk : k ≤ n) : 0 ≤ mostF z k ∧ mostF z k ≤ 22 := by
  induction k with
  | zero => simp [mostF]
  | succ k ih => have := ih (by omega); have := h k (by omega); simp only [mostF]; split <;> omega
theorem turned_nil (q : Nat → Bool) : turned q [] = [] := rfl

set_option maxHeartbeats 1000000 in
theorem specTurn_any (v : Value) (bl ofl cpl nl : Nat) (o lv : List Int) (least : Int) (w : World) (hv : Arg w v o) (hnl : lv.length = nl) (hl : o.length ≤ 1048576) (hbl : bl < w.heap.size) (hatl : At w bl ofl lv) (hin : Hid (Inn nl o)) :
    Calls Try.prog 66 #[v, .slice (some ⟨bl, ofl, none⟩) nl cpl, .int .i64 least] w fun e w' => (∃ v, e = .returned v ∧ OwnI w' w.heap.size v (turned (atLeast lv o least) o)) ∧ Below w.heap.size w w' := by
  rcases hv with ⟨a0, c0, rfl, rfl⟩ | ⟨b, off, cap, rfl, hb, hlc, hcm, hat⟩
  · go_enter Try.func66, Try.ntmps66
    go_wp2
    go_rounds 1
    go_ret
    exact ⟨⟨_, rfl, own_empty _ _ _ (Nat.le_refl _) rfl⟩, by go_grown⟩
  · exact specTurn_row b off cap o.length bl ofl cpl nl o lv least w rfl hnl hl hb hat hbl hatl hin

set_option maxHeartbeats 4000000 in
theorem specOrder_any (v : Value) (lv : List Int) (w : World) (hv : Arg w v lv) (hl : lv.length ≤ 1048576) (hb22 : Hid (∀ j, j < lv.length → fn lv j ≤ 22)) :
    Calls Try.prog 53 #[v] w fun e w' => (∃ v', e = .returned v' ∧ OwnI w' w.heap.size v' (orderL lv)) ∧ Below w.heap.size w w' := by
  rcases hv with ⟨a0, c0, rfl, rfl⟩ | ⟨b, off, cap, rfl, hb, hlc, hcm, hat⟩
  · go_enter Try.func53, Try.ntmps53
    go_wp2
    go_rounds 1
    go_rounds 1
    go_ret
    exact ⟨⟨_, rfl, own_empty _ _ _ (Nat.le_refl _) rfl⟩, by go_grown⟩
  · obtain ⟨n, hn⟩ : ∃ n, lv.length = n := ⟨_, rfl⟩
    have HF : Hid (orderL lv = ordN lv (mostF (fn lv) n).toNat (ord0 (fn lv) n)) := by show orderL lv = _; unfold orderL; rw [hn]
    rw [hn] at hl hb22 ⊢
    go_enter Try.func53, Try.ntmps53
    go_wp2
    go_loopw [3, 4, 5] (fun q ms i wr => ∃ (k : Nat) (mm : Int), k ≤ n ∧ i = .int .i64 k ∧ ms = .int .i64 mm ∧ Hid (mm = mostF (fn lv) k) ∧ OwnI wr w.heap.size q (ord0 (fn lv) k) ∧ Below w.heap.size w wr) (fun _ _ i _ => n - (intOf i).toNat)
    case atStart => exact ⟨0, 0, Nat.zero_le _, rfl, rfl, rfl, own_empty _ _ _ (Nat.le_refl _) rfl, by go_grown⟩
    case round =>
      obtain ⟨k, mm, hk, rfl, rfl, hmm, hown, hbel⟩ := hrel
      have hsz := hbel.size
      by_cases hlt : k < n
      · have hcell : wr.cell? ⟨b, off + k, none⟩ = some (.int .i64 (fn lv k)) := (hat.below hbel hb) k (by omega)
        have hle := ord0_len (fn lv) k
        by_cases h0 : 0 ≤ fn lv k
        · have HO : Hid (ord0 (fn lv) (k + 1) = ord0 (fn lv) k ++ [(k : Int)]) := by show ord0 _ _ = _; simp [ord0, h0]
          by_cases hg : mm < fn lv k
          · have HM : Hid (mostF (fn lv) (k + 1) = fn lv k) := by show mostF _ _ = _; have := hmm.out; simp only [mostF]; rw [if_pos (by omega)]
            go_wp2_with (at_builtin; refine own_append (.tmp 19) (.tmp 21) hown (by omega) hsz rfl rfl rfl rfl ?_; intro v' w5 hown5 hgr5; have hbel5 := grown_below hbel hgr5 hown (Nat.le_refl _) hsz; have hcell5 := (hat.below hbel5 hb) k (by omega))
            go_roundw
            case rel => exact ⟨k + 1, fn lv k, by omega, by go_num, rfl, HM.out.symm, by rw [HO.out]; exact hown5, hbel5⟩
            case measure => simp only [intOf]; omega
          · have HM : Hid (mostF (fn lv) (k + 1) = mm) := by show mostF _ _ = _; have := hmm.out; simp only [mostF]; rw [if_neg (by omega)]; omega
            go_wp2_with (at_builtin; refine own_append (.tmp 19) (.tmp 21) hown (by omega) hsz rfl rfl rfl rfl ?_; intro v' w5 hown5 hgr5; have hbel5 := grown_below hbel hgr5 hown (Nat.le_refl _) hsz; have hcell5 := (hat.below hbel5 hb) k (by omega))
            go_roundw
            case rel => exact ⟨k + 1, mm, by omega, by go_num, rfl, HM.out.symm, by rw [HO.out]; exact hown5, hbel5⟩
            case measure => simp only [intOf]; omega
        · have HO : Hid (ord0 (fn lv) (k + 1) = ord0 (fn lv) k) := by show ord0 _ _ = _; simp [ord0, h0]
          have hmb := mostF_bounds hb22.out k (by omega)
          rw [← hmm.out] at hmb
          have HM : Hid (mostF (fn lv) (k + 1) = mm) := by show mostF _ _ = _; have := hmm.out; simp only [mostF]; rw [if_neg (by omega)]; omega
          go_wp2_with fail
          go_roundw
          case rel => exact ⟨k + 1, mm, by omega, by go_num, rfl, HM.out.symm, by rw [HO.out]; exact hown, hbel⟩
          case measure => simp only [intOf]; omega
      · have e : k = n := by omega
        subst e
        have hmb := mostF_bounds hb22.out k (Nat.le_refl _)
        rw [← hmm.out] at hmb HF
        obtain ⟨M, hM⟩ : ∃ M : Nat, mm = (M : Int) := ⟨mm.toNat, by omega⟩
        subst hM
        rw [Int.toNat_natCast] at HF
        have hoin := ord0_inn (fn lv) k k (Nat.le_refl _)
        have hole := ord0_len (fn lv) k
        have HOI : Hid _ := hoin
        clear hoin
        go_wp2_with fail
        go_loopw [3, 6] (fun q i wr => ∃ (m : Nat) (O : List Int), m ≤ 22 ∧ i = .int .i64 m ∧ OwnI wr w.heap.size q O ∧ O.length ≤ k ∧ Hid (Inn k O ∧ ordN lv m O = orderL lv) ∧ Below w.heap.size w wr) (fun _ i _ => (intOf i).toNat)
        case atStart => exact ⟨M, _, by omega, rfl, hown, hole, ⟨HOI.out, HF.out.symm⟩, hbel⟩
        case round =>
          obtain ⟨m, O, hm, rfl, hownO, hOl, hinv, hbelO⟩ := hrel
          by_cases hm0 : m = 0
          · subst hm0
            go_wp2_with fail
            go_ret
            exact ⟨⟨_, rfl, by rw [← hinv.out.2]; exact hownO⟩, hbelO⟩
          · obtain ⟨j, rfl⟩ : ∃ j, m = j + 1 := ⟨m - 1, by omega⟩
            go_wp2_with fail
            refine (specTurn_any _ b off cap k O lv _ _ hownO.arg hn (by omega) (Nat.lt_of_lt_of_le hb hbelO.size) (hat.below hbelO hb) hinv.out.1).mono ?_
            rintro e w6 ⟨⟨v6, rfl, o6⟩, b6⟩
            go_wp2_with fail
            go_roundw
            case rel =>
              refine ⟨j, _, by omega, by go_num, o6.mono hbelO.size, by rw [turned_len]; exact hOl, ⟨inn_turned hinv.out.1 _, ?_⟩, bstep hbelO b6⟩
              rw [← hinv.out.2]; rfl
            case measure => simp only [intOf]; omega
end Go.Proofs.Ytbjcdogbhnadkac
