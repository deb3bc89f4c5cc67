import Derived.Test.YtpdngcjioaeckacOrderTop
import Derived.Test.YtpdngcjioaeckacFill
namespace Go.Proofs.Ytpdngcjioaeckac
open Go.ChangeShapes Go.WideShapes Go.ChangeAt Go.RowKit
set_option linter.unusedSimpArgs false

def backF (n : Nat) (o : List Int) : Nat → List Int
  | 0 => List.replicate n (-1)
  | k + 1 => (backF n o k).set (fn o k).toNat (k : Int)
theorem backF_len (n : Nat) (o : List Int) (k : Nat) : (backF n o k).length = n := by
  induction k with
  | zero => simp [backF]
  | succ k ih => simp [backF, ih]
def backR (lv : List Int) : List Int := if lvF (fn lv) lv.length = true then backF lv.length (orderL lv) (orderL lv).length else []
theorem backR_len (lv : List Int) : (backR lv).length ≤ 80 := by
  unfold backR
  split
  · rename_i h; rw [backF_len]; exact lvF_len h
  · simp
theorem ordN_inn {n : Nat} (lv : List Int) (m : Nat) (o : List Int) (h : Inn n o) : Inn n (ordN lv m o) := by
  induction m generalizing o with
  | zero => exact h
  | succ m ih => simp only [ordN]; exact ih _ (inn_turned h _)
theorem orderL_inn (lv : List Int) : Inn lv.length (orderL lv) := by
  unfold orderL; exact ordN_inn _ _ _ (ord0_inn _ _ _ (Nat.le_refl _))
theorem rep_snoc (k : Nat) (x : Int) : List.replicate (k + 1) x = List.replicate k x ++ [x] := by
  rw [List.replicate_succ']

set_option maxHeartbeats 4000000 in
theorem implBack (a : Option Addr) (n cap : Nat) (lv : List Int) (w : World) (hn : lv.length = n) (hv : Arg w (.slice a n cap) lv) (hl : n ≤ 4194304) :
    Calls Try.prog 21 #[.slice a n cap] w fun e w' => (∃ v', e = .returned v' ∧ OwnI w' w.heap.size v' (backR lv)) ∧ Below w.heap.size w w' := by
  have HO := implLv _ lv w hv (by omega)
  rw [hn] at HO
  cases hok : lvF (fn lv) n
  · have HC : Hid (backR lv = []) := show backR lv = [] by simp [backR, hn, hok]
    rw [hok] at HO
    go_enter Try.func21, Try.ntmps21
    go_wp2_with (go_at_call 49; refine HO.mono ?_; rintro e w' ⟨rfl, rfl⟩)
    go_ret
    exact ⟨⟨_, rfl, by rw [HC.out]; exact OwnI.nil _ _⟩, Below.refl _ _⟩
  · have h80 := lvF_len hok
    obtain ⟨O, hO⟩ : ∃ O, orderL lv = O := ⟨_, rfl⟩
    have HC : Hid (backR lv = backF n O O.length) := show backR lv = _ by simp [backR, hn, hok, hO]
    have HI : Hid (Inn n O) := show Inn n O by rw [← hO, ← hn]; exact orderL_inn lv
    have HOR : Hid (ordR lv = O) := show ordR lv = O by simp [ordR, hn, hok, hO]
    have HLV : Hid _ := hn
    rw [hok] at HO
    obtain ⟨i0, hi, hz0, hz1, hz2⟩ := info_parts infoM
    clear hn hok hO
    go_enter Try.func21, Try.ntmps21
    go_wp2_with fail
    refine HO.mono ?_
    rintro e w1 ⟨rfl, rfl⟩
    go_wp2_with (first | (at_make; refine wpList_make_full _ rfl _ _ 23 rfl w1.heap.size 3 i0 (.int .i64 0) 1 Try.underlying23 hi hz0 hz1 _ _ _ _ n rfl rfl rfl rfl (by rw [hz2]; omega) (by unfold maxLen; omega) (Nat.le_refl _) ?_; intro w2 hown hgrow))
    have hB : Below w1.heap.size w1 w2 := (Below.refl _ _).grown hgrow (Nat.le_refl _) (by simp)
    have ho : OwnI w2 w1.heap.size (.slice (some ⟨w1.heap.size, 0, none⟩) n n) (List.replicate n 0) := made_row hown
    clear hown hgrow
    refine (fill_row w1.heap.size n n _ w1.heap.size (-1) w2 ho (by omega)).mono ?_
    rintro e w3 ⟨rfl, ho3, gr3, sz3⟩
    have hB3 : Below w1.heap.size w1 w3 := hB.grown gr3 hB.size (fun kk hkk => by simp at hkk; omega)
    have hlt3 := (ho3.lt w1.heap.size rfl).2
    have hv3 := hv.below hB3
    clear sz3 gr3 ho
    go_wp2_with fail
    refine (implOrd _ lv w3 hv3 (by rw [HLV.out]; omega)).mono ?_
    rintro e w4 ⟨⟨vo, rfl, oo⟩, b4⟩
    rw [HOR.out] at oo
    have hB4 := bstep hB3 b4
    have ho4 := ho3.below b4
    obtain ⟨L, hL⟩ : ∃ L, O.length = L := ⟨_, rfl⟩
    rw [hL] at HC
    by_cases hL0 : L = 0
    · subst hL0
      rcases oo.forms with ⟨rfl, _⟩ | ⟨g2, cp2, rfl, _⟩
      all_goals
        try rw [hL]
        go_wp2_with fail
        go_rounds 1
        go_ret
        exact ⟨⟨_, rfl, by rw [HC.out]; exact ho4⟩, hB4⟩
    · rcases oo.forms with ⟨rfl, he⟩ | ⟨g2, cp2, rfl, hg2, hgw2, hlc2, hcm2, hat2⟩
      · exfalso; rw [he] at hL; simp at hL; omega
      · rw [hL] at hlc2 oo ⊢
        have hne : g2 ≠ w1.heap.size := by omega
        have hLs : L ≤ 80 := by
          have := ordR_len lv
          rw [HOR.out] at this; omega
        go_wp2_with fail
        go_loopw [17] (fun i wr => ∃ (k : Nat), k ≤ L ∧ i = .int .i64 k ∧ OwnI wr w1.heap.size (.slice (some ⟨w1.heap.size, 0, none⟩) n n) (backF n O k) ∧ w4.grownBy wr (some w1.heap.size)) (fun i _ => L - (intOf i).toNat)
        case atStart => exact ⟨0, Nat.zero_le _, rfl, ho4, ⟨rfl, rfl, rfl, Nat.le_refl _, fun _ _ _ => rfl⟩⟩
        case round =>
          obtain ⟨k, hk, rfl, hown, hgr⟩ := hrel
          by_cases hlt : k < L
          · obtain ⟨hp0, hp1⟩ := HI.out k (by omega)
            obtain ⟨p, hp⟩ : ∃ p : Nat, fn O k = (p : Int) := ⟨(fn O k).toNat, by omega⟩
            have HS : Hid (backF n O (k + 1) = (backF n O k).set p (k : Int)) := show backF n O (k + 1) = _ by simp [backF, hp]
            have hpn : p < n := by omega
            have hc0 := hat2 k (by omega)
            rw [hp, Nat.zero_add] at hc0
            have hc1 : wr.cell? ⟨g2, k, none⟩ = some (.int .i64 (p : Int)) := grown_cell hgr hc0 hne
            have hf : wr.frozen? ⟨w1.heap.size, p, none⟩ = false := hown.frozenN p
            have hc2 : wr.cell? ⟨w1.heap.size, p, none⟩ = some (.int .i64 (fn (backF n O k) p)) := hown.cellN p hpn
            clear hp hp0 hp1 hc0
            go_wp2_with fail
            go_roundw
            case rel =>
              refine ⟨k + 1, by omega, by go_num, by rw [HS.out]; exact hown.storedN p _, ?_⟩
              exact ⟨hgr.os, hgr.tape, hgr.output, by simpa using hgr.size, fun i hi hne => (heap_setCell_other wr ⟨w1.heap.size, p, none⟩ i _ (fun e => hne (by rw [e]))).trans (hgr.block i hi hne)⟩
            case measure => simp only [intOf]; omega
          · have e : k = L := by omega
            subst e
            go_wp2_with fail
            go_ret
            exact ⟨⟨_, rfl, by rw [HC.out]; exact hown⟩, hB4.grown hgr hB4.size (fun kk hkk => by simp at hkk; omega)⟩

set_option maxHeartbeats 4000000 in
theorem specBack (a : Option Addr) (n cap : Nat) (lv : List Int) (w : World) (hn : lv.length = n) (hv : Arg w (.slice a n cap) lv) (hl : n ≤ 4194304) :
    Calls Try.prog 23 #[.slice a n cap] w fun e w' => (∃ v', e = .returned v' ∧ OwnI w' w.heap.size v' (backR lv)) ∧ Below w.heap.size w w' := by
  have hB1 : Below w.heap.size w (w.alloc (.cells #[] 3)) := (Below.refl _ _).alloc (Nat.le_refl _) _
  have HO := specLv _ lv _ (hv.below hB1) (by omega)
  rw [hn] at HO
  cases hok : lvF (fn lv) n
  · have HC : Hid (backR lv = []) := show backR lv = [] by simp [backR, hn, hok]
    rw [hok] at HO
    go_enter Try.func23, Try.ntmps23
    go_wp2_with (go_at_call 52; refine HO.mono ?_; rintro e w' ⟨rfl, rfl⟩)
    go_ret
    exact ⟨⟨_, rfl, by rw [HC.out]; exact own_empty _ _ _ (Nat.le_refl _) rfl⟩, hB1⟩
  · have h80 := lvF_len hok
    obtain ⟨O, hO⟩ : ∃ O, orderL lv = O := ⟨_, rfl⟩
    have HC : Hid (backR lv = backF n O O.length) := show backR lv = _ by simp [backR, hn, hok, hO]
    have HI : Hid (Inn n O) := show Inn n O by rw [← hO, ← hn]; exact orderL_inn lv
    have HOR : Hid (orderL lv = O) := hO
    have H22 : Hid (∀ j, j < lv.length → fn lv j ≤ 22) := fun j hj => by have := lvF_get hok (j := j) (by omega); simp [lvl] at this; omega
    have hOl : O.length ≤ 80 := by
      have := ordR_len lv
      rw [show ordR lv = O by simp [ordR, hn, hok, hO]] at this; exact this
    have HLV : Hid _ := hn
    rw [hok] at HO
    clear hn hok hO
    go_enter Try.func23, Try.ntmps23
    go_wp2_with fail
    refine HO.mono ?_
    rintro e w1 ⟨rfl, rfl⟩
    go_wp2_with fail
    go_loopw [3, 4] (fun q i wr => ∃ (k : Nat), k ≤ n ∧ i = .int .i64 k ∧ OwnI wr w.heap.size q (List.replicate k (-1)) ∧ Below w.heap.size w wr) (fun _ i _ => n - (intOf i).toNat)
    case atStart => exact ⟨0, Nat.zero_le _, rfl, own_empty _ _ _ (Nat.le_refl _) rfl, hB1⟩
    case round =>
      obtain ⟨k, hk, rfl, hown, hbel⟩ := hrel
      have hsz := hbel.size
      by_cases hlt : k < n
      · have hlen : (List.replicate k (-1 : Int)).length = k := List.length_replicate ..
        go_wp2_with (at_builtin; refine own_append (.tmp 18) (.tmp 19) hown (by omega) hsz rfl rfl rfl rfl ?_; intro v' w5 hown5 hgr5)
        go_roundw
        case rel => exact ⟨k + 1, by omega, by go_num, by rw [rep_snoc]; exact hown5, grown_below hbel hgr5 hown (Nat.le_refl _) hsz⟩
        case measure => simp only [intOf]; omega
      · have e : k = n := by omega
        subst e
        have hv3 := hv.below hbel
        go_wp2_with fail
        refine (specOrder_any _ lv wr hv3 (by rw [HLV.out]; omega) H22).mono ?_
        rintro e w4 ⟨⟨vo, rfl, oo⟩, b4⟩
        rw [HOR.out] at oo
        have hB4 := bstep hbel b4
        have ho4 := hown.below b4
        obtain ⟨L, hL⟩ : ∃ L, O.length = L := ⟨_, rfl⟩
        rw [hL] at HC hOl
        by_cases hL0 : L = 0
        · subst hL0
          rcases oo.forms with ⟨rfl, _⟩ | ⟨g2, cp2, rfl, _⟩
          all_goals
            try rw [hL]
            go_wp2_with fail
            go_rounds 1
            go_ret
            exact ⟨⟨_, rfl, by rw [HC.out]; exact ho4⟩, hB4⟩
        · rcases oo.forms with ⟨rfl, he⟩ | ⟨g2, cp2, rfl, hg2, hgw2, hlc2, hcm2, hat2⟩
          · exfalso; rw [he] at hL; simp at hL; omega
          · have hk0 : 0 < k := by have := HI.out 0 (by omega); omega
            rw [hL] at hlc2 oo ⊢
            rcases ho4.forms with ⟨_, he⟩ | ⟨g, cp, rfl, hg, hgw, hlc, hcm, _⟩
            · exfalso; have := congrArg List.length he; simp at this; omega
            · have hgl := (hown.lt g rfl).2
              have hne : g2 ≠ g := by omega
              rw [List.length_replicate] at hown ho4 hlc ⊢
              go_wp2_with fail
              go_loopw [6] (fun i wr => ∃ (m : Nat), m ≤ L ∧ i = .int .i64 m ∧ OwnI wr w.heap.size (.slice (some ⟨g, 0, none⟩) k cp) (backF k O m) ∧ w4.grownBy wr (some g)) (fun i _ => L - (intOf i).toNat)
              case atStart => exact ⟨0, Nat.zero_le _, rfl, ho4, ⟨rfl, rfl, rfl, Nat.le_refl _, fun _ _ _ => rfl⟩⟩
              case round =>
                obtain ⟨m, hm, rfl, hownm, hgr⟩ := hrel
                by_cases hltm : m < L
                · obtain ⟨hp0, hp1⟩ := HI.out m (by omega)
                  obtain ⟨p, hp⟩ : ∃ p : Nat, fn O m = (p : Int) := ⟨(fn O m).toNat, by omega⟩
                  have HS : Hid (backF k O (m + 1) = (backF k O m).set p (m : Int)) := show backF k O (m + 1) = _ by simp [backF, hp]
                  have hpn : p < k := by omega
                  have hc0 := hat2 m (by omega)
                  rw [hp, Nat.zero_add] at hc0
                  have hc1 : wr.cell? ⟨g2, m, none⟩ = some (.int .i64 (p : Int)) := grown_cell hgr hc0 hne
                  have hf : wr.frozen? ⟨g, p, none⟩ = false := hownm.frozenN p
                  have hc2 : wr.cell? ⟨g, p, none⟩ = some (.int .i64 (fn (backF k O m) p)) := hownm.cellN p hpn
                  clear hp hp0 hp1 hc0
                  go_wp2_with fail
                  go_roundw
                  case rel =>
                    refine ⟨m + 1, by omega, by go_num, by rw [HS.out]; exact hownm.storedN p _, ?_⟩
                    exact ⟨hgr.os, hgr.tape, hgr.output, by simpa using hgr.size, fun i hi hne => (heap_setCell_other wr ⟨g, p, none⟩ i _ (fun e => hne (by rw [e]))).trans (hgr.block i hi hne)⟩
                  case measure => simp only [intOf]; omega
                · have e : m = L := by omega
                  subst e
                  go_wp2_with fail
                  go_ret
                  exact ⟨⟨_, rfl, by rw [HC.out]; exact hownm⟩, hB4.grown hgr hB4.size (fun kk hkk => by simp at hkk; omega)⟩
end Go.Proofs.Ytpdngcjioaeckac
