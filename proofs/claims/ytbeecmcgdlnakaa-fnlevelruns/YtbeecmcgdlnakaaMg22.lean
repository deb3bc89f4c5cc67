import Derived.Test.YtbeecmcgdlnakaaMg9
import Derived.Test.YtbeecmcgdlnakaaMg11
import Derived.Test.YtbeecmcgdlnakaaMg12
import Derived.Test.YtbeecmcgdlnakaaMg16
import Derived.Test.YtbeecmcgdlnakaaMg21
import Derived.Test.YtbeecmcgdlnakaaMg18
namespace Go.Proofs.Ytbeecmcgdlnakaa
open Go.ChangeShapes Go.WideShapes Go.ChangeAt Go.RowKit
set_option linter.unusedSimpArgs false
set_option linter.unusedVariables false

theorem slicZ' {w : World} {B : Nat} {v : Value} {l : List Int} (h : OwnI w B v l) : ∃ a n cap, v = .slice a n cap ∧ l.length = n := by
  rcases h.forms with ⟨rfl, rfl⟩ | ⟨g, cap, rfl, _⟩
  · exact ⟨_, _, _, rfl, rfl⟩
  · exact ⟨_, _, _, rfl, rfl⟩
/-- What runs are, whatever they are of. -/
theorem runsR_is (l : List Int) (mt : Nat → Nat) (base : Int) (hmt : MateFn (cl l) l.length mt) (hl : l.length ≤ 81) :
    ∃ R : List (List Nat), runsR l mt base = natR R ∧ R.length ≤ 81 ∧ (∀ q (h : q < R.length), R[q] ≠ [] ∧ (R[q]).length ≤ 81 ∧ (R[q]).Pairwise (· < ·) ∧ ∀ x ∈ R[q], x < (toldL l mt base).length ∧ 0 ≤ fn (toldL l mt base) x ∧ ∃ y, (R[q]).head? = some y ∧ y < (toldL l mt base).length ∧ fn (toldL l mt base) x = fn (toldL l mt base) y) ∧ ∀ x, x < (toldL l mt base).length → R.flatten.count x = if 0 ≤ fn (toldL l mt base) x then 1 else 0 := by
  by_cases hq : okT l base = true
  · obtain ⟨_, hb01, h80⟩ := okT_out hq
    have ht := txt_told l mt hb01 hmt
    refine ⟨_, by unfold runsR; rw [if_pos hq], Nat.le_trans (runs_len _) hl, fun q h => ?_, fun x hx => ?_⟩
    · have hm := List.getElem_mem h
      generalize (runsTo (cl l) (fn (lvL (cl l) (fsF (cl l) mt) base l.length)) l.length mt l.length)[q] = r at hm
      unfold runsTo at hm
      rw [List.mem_map] at hm
      obtain ⟨s, hs, rfl⟩ := hm
      rw [List.mem_filter, List.mem_range] at hs
      have hbs := start_beg hs.2
      obtain ⟨h3, h4⟩ := chain_len ht (l.length - s) s hbs hs.1 (Nat.le_refl _)
      have h5 := inc_len h3 h4
      obtain ⟨r, hr⟩ := piece_head hbs hs.1
      have hce := chain_eq ht hbs hs.1
      rw [(toldL_yes hq).1, lvL_len]
      refine ⟨by rw [hce, hr]; simp, by omega, h3, fun x hx => ?_⟩
      obtain ⟨q1, q2, q3⟩ := chain_lv ht l.length s hbs hs.1 (by omega) x hx
      exact ⟨q2, q1, s, by rw [hce, hr]; rfl, hs.1, q3⟩
    · rw [(toldL_yes hq).1] at hx ⊢
      rw [lvL_len] at hx
      exact runs_count ht x hx
  · refine ⟨[], by unfold runsR; rw [if_neg hq]; rfl, by simp, fun q h => by simp at h, fun x hx => ?_⟩
    rw [(toldL_no hq).1] at hx; simp at hx
theorem rN_natR {R : List (List Nat)} {q : Nat} (h : q < R.length) : rN (natR R) q = natL R[q] := by simp [rN, natR, h]
/-- How often places came, up to a moment. -/
def Cnt (S : List Int) (m : Nat) (F : List Nat) : Prop := S.length = m ∧ ∀ x, x < m → fn S x = (F.count x : Nat)
theorem cnt_step {S : List Int} {m x : Nat} {F : List Nat} (h : Cnt S m F) (hx : x < m) : Cnt (S.set x (fn S x + 1)) m (F ++ [x]) := by
  refine ⟨by rw [List.length_set]; exact h.1, fun y hy => ?_⟩
  rw [List.count_append]
  by_cases e : x = y
  · subst e
    rw [fn_set_same (by rw [h.1]; exact hx), h.2 x hx]; simp
  · rw [fn_set_other e, h.2 y hy]; simp [e]

set_option maxRecDepth 10000 in
set_option maxHeartbeats 8000000 in
theorem runsLaw2 (a : Option Addr) (len cap : Nat) (w : World) (h : Bytes w a len cap) :
    Calls Try.prog 4 #[.slice a len cap] w fun e w' => e = .returned (.bool true) ∧ Below w.heap.size w w' := by
  obtain ⟨i0, hi, hz0, hz1, hz2⟩ := info_parts infoN
  by_cases hbig : 1048576 < len
  · have hbig2 : (1048576 : Int) < (len : Int) := by omega
    go_enter Try.func4, Try.ntmps4
    go_wp2_with fail
    go_ret
    exact ⟨rfl, Below.refl _ _⟩
  · have hl2 : (len : Int) ≤ 1048576 := by omega
    go_enter Try.func4, Try.ntmps4
    go_wp2_with fail
    refine (drawRuns2 a len cap w h).mono ?_
    rintro e w1 ⟨⟨v, l, b, rfl, o1, hlen⟩, b1⟩
    obtain ⟨av, _, cv, rfl, rfl⟩ := slicZ' o1
    obtain ⟨mt, hmt⟩ := mt_exists (cl l) l.length
    have HMT : Hid (MateFn (cl l) l.length mt) := hmt
    obtain ⟨R, hR, hRn, hone, hcnt⟩ := runsR_is l mt b hmt hlen
    have hxl := toldL_le l mt b
    obtain ⟨X, hX⟩ : ∃ X, toldL l mt b = X := ⟨_, rfl⟩
    rw [hX] at hone hcnt hxl
    have HX : Hid (toldL l mt b = X) := hX
    have HR : Hid (runsR l mt b = natR R) := hR
    have HONE : Hid _ := hone
    have HCNT : Hid _ := hcnt
    clear hmt hR hone hcnt hX
    go_wp2_with fail
    refine (implLevelRuns _ l mt b _ av cv rfl o1.arg (by omega) HMT).mono ?_
    rintro e w2 ⟨⟨vg, rfl, ug, rg2⟩, b2⟩
    have o2 := o1.below b2
    have B2 := bstep b1 b2
    rw [HR.out] at rg2
    go_wp2_with fail
    refine (specLevelRuns _ l mt b _ av cv rfl o2.arg (by omega) HMT).mono ?_
    rintro e w3 ⟨⟨vs, rfl, us, rs3⟩, b3⟩
    rw [HR.out] at rs3
    have o3 := o2.below b3
    have rg3 := rg2.below b3
    have B3 := bstep B2 b3
    go_wp2_with fail
    refine (wcRows_yes _ _ _ _ (natR R) _ _ _ rg3 rs3 (fun j hj => by rw [natR_len] at hj; rw [rN_natR hj, natL_len]; have := (HONE.out j hj).2.1; omega) (by rw [natR_len]; omega)).mono ?_
    rintro e w4 ⟨rfl, b4⟩
    have o4 := o3.below b4
    have rg4 := rg3.below b4
    have B4 := bstep B3 b4
    clear o1 o2 o3 rg2 rg3 rs3 b1 b2 b3 b4 B2 B3
    go_wp2_with fail
    refine (implTold _ l mt b _ av cv rfl o4.arg (by omega) HMT).mono ?_
    rintro e w5 ⟨⟨vx, vy, rfl, ox5, _, _⟩, b5⟩
    rw [HX.out] at ox5
    have rg5 := rg4.below b5
    have B5 := bstep B4 b5
    clear o4 rg4 b5 B4
    obtain ⟨ax, m, cx, rfl, hm⟩ := slicZ' ox5
    obtain ⟨ag, cg, rfl⟩ := rg5.slc
    obtain ⟨N, hN⟩ : ∃ N, R.length = N := ⟨_, rfl⟩
    have hrl : (natR R).length = N := by rw [natR_len, hN]
    rw [hrl] at rg5 ⊢
    rw [hm] at hxl
    have hm81 : m ≤ 81 := by omega
    have HM : Hid (X.length = m) := hm
    have HN : Hid (R.length = N) := hN
    have HRL : Hid ((natR R).length = N) := hrl
    have hw5 : w.heap.size ≤ w5.heap.size := B5.size
    clear hm hN hrl hxl
    go_wp2_with (at_make; refine wpList_make_full _ rfl _ _ 23 rfl w5.heap.size 3 i0 (.int .i64 0) 1 Try.underlying23 hi hz0 hz1 _ _ _ _ m rfl rfl rfl rfl (by rw [hz2]; omega) (by unfold maxLen; omega) (Nat.le_refl _) ?_; intro w6 hown hgrow)
    have hb6 : Below w5.heap.size w5 w6 := (Below.refl _ _).grown hgrow (Nat.le_refl _) (by simp)
    have os6 : OwnI w6 w5.heap.size (.slice (some ⟨w5.heap.size, 0, none⟩) m m) (List.replicate m 0) := made_row hown
    obtain ⟨gs, hgs⟩ : ∃ gs, w5.heap.size = gs := ⟨_, rfl⟩
    have hgs6 : gs < w6.heap.size := by rw [← hgs]; exact (os6.lt _ rfl).2
    have HRW : Hid (∀ W : World, (∀ k, k < gs → W.heap[k]? = w6.heap[k]?) → RR W w1.heap.size (.slice ag N cg) ug (natR R) ∧ OwnI W w4.heap.size (.slice ax m cx) X) := fun W hW =>
      ⟨(rg5.below hb6).kept (fun k hk => hW k (by
          rw [← hgs]
          rcases hk with hk | ⟨j, hj, hk⟩
          · exact (rg5.lt k hk).2
          · exact ((rg5.row j hj).lt k hk).2)),
       (ox5.below hb6).kept (fun k hk => hW k (by rw [← hgs]; exact (ox5.lt k hk).2))⟩
    have HB6 : Hid (Below w.heap.size w w6) := bstep B5 hb6
    have hwgs : w.heap.size ≤ gs := by rw [← hgs]; exact hw5
    rw [hgs] at os6 ⊢
    have HS0 : Hid (OwnI w6 gs (.slice (some ⟨gs, 0, none⟩) m m) (List.replicate m 0)) := os6
    clear hown hgrow hb6 os6 rg5 ox5 B5 hw5 hgs
    go_loopw [9] (fun i wr => ∃ (q : Nat) (S : List Int), q ≤ N ∧ i = .int .i64 q ∧ Hid (OwnI wr gs (.slice (some ⟨gs, 0, none⟩) m m) S) ∧ Hid (Cnt S m (R.take q).flatten) ∧ Hid (∀ k, k < gs → wr.heap[k]? = w6.heap[k]?) ∧ Hid (Below w.heap.size w wr)) (fun i _ => N - (intOf i).toNat)
    case atStart => exact ⟨0, _, Nat.zero_le _, rfl, HS0.out, ⟨by simp, fun x hx => by simp [fn, hx]⟩, fun _ _ => rfl, HB6.out⟩
    case round =>
      obtain ⟨q, S, hq, rfl, hS, hC, hkeep, hbel⟩ := hrel
      by_cases hlt : q < N
      · have hqi : (q : Int) < (N : Int) := by omega
        have hqR : q < R.length := by rw [HN.out]; exact hlt
        obtain ⟨r0, r1, r2, r3⟩ := HONE.out q hqR
        obtain ⟨r, hr⟩ : ∃ r, R[q] = r := ⟨_, rfl⟩
        have htk : R.take (q + 1) = R.take q ++ [r] := by rw [List.take_add_one, List.getElem?_eq_getElem hqR, hr]; rfl
        have hFl : (R.take (q + 1)).flatten = (R.take q).flatten ++ r := by rw [htk]; simp
        rw [hr] at r0 r1 r2 r3
        obtain ⟨hR0, hX0⟩ := HRW.out wr hkeep.out
        obtain ⟨g1, c1', e1, _⟩ := hR0.own.form1 (by rw [HRL.out]; omega)
        simp only [Value.slice.injEq] at e1
        obtain ⟨rfl, hz1', rfl⟩ := e1
        clear hz1'
        have k0 := hR0.cellA q hlt
        have row0 := hR0.row q (by rw [HRL.out]; exact hlt)
        rw [rN_natR hqR, hr] at row0
        obtain ⟨gq, cq, eq0, _⟩ := OwnI.form1 row0 (by intro e; apply r0; have := congrArg List.length e; rw [natL_len] at this; exact List.eq_nil_of_length_eq_zero this)
        obtain ⟨n, hn⟩ : ∃ n, r.length = n := ⟨_, rfl⟩
        rw [natL_len, hn] at eq0
        obtain ⟨y, hy, hym, _⟩ : ∃ y, r.head? = some y ∧ y < X.length ∧ True := by
          cases r with
          | nil => exact absurd rfl r0
          | cons z t => obtain ⟨_, _, y, h1, h2, _⟩ := r3 z (by simp); exact ⟨y, h1, h2, trivial⟩
        have hlv : ∀ x ∈ r, x < m ∧ fn X x = fn X y := fun x hx => by
          obtain ⟨h1, _, y2, h2, _, h4⟩ := r3 x hx
          rw [hy] at h2
          simp only [Option.some.injEq] at h2
          subst h2
          exact ⟨by rw [← HM.out]; exact h1, h4⟩
        rw [HM.out] at hym
        have hn0 : 0 < n := by rw [← hn]; exact List.length_pos_iff.2 r0
        have hhd : fn (natL r) 0 = (y : Int) := by
          cases r with
          | nil => exact absurd rfl r0
          | cons z t => simp at hy; subst hy; rfl
        obtain ⟨gx, cx', ex, _⟩ := OwnI.form1 hX0 (by intro e; rw [e] at HM; have := HM.out; simp at this; omega)
        rw [HM.out] at ex
        simp only [Value.slice.injEq] at ex
        obtain ⟨rfl, _, rfl⟩ := ex
        have hnl : n ≤ 81 := by omega
        -- what can be read, whatever is counted
        have HRD : Hid (∀ W : World, (∀ k, k < gs → W.heap[k]? = w6.heap[k]?) → W.cell? ⟨g1, q, none⟩ = some (.slice (some ⟨gq, 0, none⟩) n cq) ∧ (∀ j, j < n → W.cell? ⟨gq, j, none⟩ = some (.int .i64 (fn (natL r) j))) ∧ ∀ x, x < m → W.cell? ⟨gx, x, none⟩ = some (.int .i64 (fn X x))) := fun W hW => by
          obtain ⟨hR1, hX1⟩ := HRW.out W hW
          have k1 := hR1.cellA q hlt
          have row1 := hR1.row q (by rw [HRL.out]; exact hlt)
          rw [rN_natR hqR, hr, eq0] at row1
          rw [eq0] at k1
          exact ⟨k1, fun j hj => row1.cellN j hj, fun x hx => hX1.cellN x hx⟩
        have HFL : Hid ((R.take (q + 1)).flatten = (R.take q).flatten ++ r) := hFl
        have HLV : Hid (∀ x ∈ r, x < m ∧ fn X x = fn X y) := hlv
        have HINC : Hid (r.Pairwise (· < ·)) := r2
        have HRN : Hid (r.length = n) := hn
        have HHD : Hid (fn (natL r) 0 = (y : Int)) := hhd
        obtain ⟨c1, _, _⟩ := HRD.out wr hkeep.out
        clear r0 r1 r2 r3 hr htk hFl hR0 hX0 k0 row0 eq0 hn hy hlv hhd
        go_wp2_with fail
        go_loopw [10] (fun i wz => ∃ (k : Nat) (S : List Int), k ≤ n ∧ i = .int .i64 k ∧ Hid (OwnI wz gs (.slice (some ⟨gs, 0, none⟩) m m) S) ∧ Hid (Cnt S m ((R.take q).flatten ++ r.take k)) ∧ Hid (∀ k, k < gs → wz.heap[k]? = w6.heap[k]?) ∧ Hid (Below w.heap.size w wz)) (fun i _ => n - (intOf i).toNat)
        case atStart => exact ⟨0, S, Nat.zero_le _, rfl, hS.out, by rw [List.take_zero, List.append_nil]; exact hC.out, hkeep.out, hbel.out⟩
        case round =>
          obtain ⟨k, S2, hk, rfl, hS2, hC2, hkeep2, hbel2⟩ := hrel
          rename World => wz
          clear c1
          obtain ⟨c1, c2, c3⟩ := HRD.out wz hkeep2.out
          by_cases hkn : k < n
          · have hki : (k : Int) < (n : Int) := by omega
            have hkr : k < r.length := by rw [HRN.out]; exact hkn
            obtain ⟨x, hx⟩ : ∃ x, r[k] = x := ⟨_, rfl⟩
            have hxm : x ∈ r := by rw [← hx]; exact List.getElem_mem hkr
            obtain ⟨x1, x2⟩ := HLV.out x hxm
            have cx1 := c2 k hkn
            rw [fn_natL hkr, hx] at cx1
            have cy1 := c2 0 hn0
            rw [HHD.out] at cy1
            have cvx := c3 x x1
            have cvy := c3 y hym
            rw [x2] at cvx
            obtain ⟨L, hL⟩ : ∃ L, fn X y = L := ⟨_, rfl⟩
            rw [hL] at cvx cvy
            have cs := hS2.out.cellN x x1
            have fs : wz.frozen? ⟨gs, x, none⟩ = false := hS2.out.frozenN x
            have hcS := hC2.out.2 x x1
            obtain ⟨K, hK⟩ : ∃ K, ((R.take q).flatten ++ r.take k).count x = K := ⟨_, rfl⟩
            have hKl : K ≤ 7000 := by
              rw [← hK]
              have h1 : ((R.take q).flatten ++ r.take k).count x ≤ R.flatten.count x + r.count x := by
                rw [List.count_append]
                have e1 : R.flatten = (R.take q).flatten ++ (R.drop q).flatten := by rw [← List.flatten_append, List.take_append_drop]
                have e2 : r = r.take k ++ r.drop k := by rw [List.take_append_drop]
                have e3 : R.flatten.count x = (R.take q).flatten.count x + (R.drop q).flatten.count x := by rw [e1, List.count_append]
                have e4 : r.count x = (r.take k).count x + (r.drop k).count x := by rw [← List.count_append, List.take_append_drop]
                omega
              have h2 := HCNT.out x (by rw [HM.out]; exact x1)
              have h3 : r.count x ≤ r.length := List.count_le_length
              have h4 := HRN.out
              have h5 : (if 0 ≤ fn X x then 1 else 0 : Nat) ≤ 1 := by split <;> omega
              omega
            rw [hK] at hcS
            rw [hcS] at cs
            have hst := hS2.out.storedN x ((K : Int) + 1)
            have hC3 : Hid (Cnt (S2.set x ((K : Int) + 1)) m ((R.take q).flatten ++ r.take (k + 1))) := by
              have := cnt_step hC2.out x1
              rw [hcS] at this
              unfold Hid
              rw [List.take_add_one, List.getElem?_eq_getElem hkr, hx]
              simpa [List.append_assoc] using this
            have HST : Hid _ := hst
            have hxi : (x : Int) < (m : Int) := by omega
            have hyi : (y : Int) < (m : Int) := by omega
            have hwq : Hid (decide ((0 : Int) ≤ (x : Int) ∧ (x : Int) ≤ (m : Int) - 1) = true) := decide_eq_true ⟨by omega, by omega⟩
            have HWC : Hid (∀ q, Calls Try.prog 14 #[.int .i64 (x : Int), .int .i64 0, .int .i64 ((m : Int) - 1)] (wz.drewN q) fun e w' => e = .returned (.bool true) ∧ w' = wz.drewN q) := fun q => wcIn_b _ _ _ _ true hwq
            have HKP : Hid (∀ q W, W = (wz.drewN q).setCell ⟨gs, x, none⟩ (.int .i64 ((K : Int) + 1)) → OwnI W gs (.slice (some ⟨gs, 0, none⟩) m m) (S2.set x ((K : Int) + 1)) ∧ (∀ k, k < gs → W.heap[k]? = w6.heap[k]?) ∧ Below w.heap.size w W) := fun q W hW => by
              rw [hW]
              exact ⟨HST.out, fun k hk => (heap_setCell_other _ ⟨gs, x, none⟩ k _ (by simp; omega)).trans (hkeep2.out k hk), (bstep hbel2.out (below_draws wz q)).setCell (p := ⟨gs, x, none⟩) hwgs _⟩
            have HC2 : Hid (∀ j, j < n → wz.cell? ⟨gq, j, none⟩ = some (.int .i64 (fn (natL r) j))) := c2
            have hx2 : r[k]'hkr = x := hx
            have HXR : Hid (r[k]'hkr = x) := hx2
            clear hx hx2 hxm x1 x2 hL hK hst hcS c2 c3
            by_cases hk0 : k = 0
            · subst hk0
              have exy : x = y := by rw [cx1] at cy1; simp at cy1; omega
              subst exy
              clear cy1
              have d1 : decide (0 < (0 : Int)) = false := by simp
              go_wp2_with fail
              go_quiet ((go_at_call 14; with_reducible exact Calls.quiet_of_same (HWC.out _)))
              go_wp2_with fail
              go_roundw
              case rel => exact ⟨1, _, by omega, by go_num, (HKP.out nq _ rfl).1, hC3.out, (HKP.out nq _ rfl).2.1, (HKP.out nq _ rfl).2.2⟩
              case measure => simp only [intOf]; omega
            · obtain ⟨j, rfl⟩ : ∃ j, k = j + 1 := ⟨k - 1, by omega⟩
              have hjr : j < r.length := by rw [HRN.out]; omega
              obtain ⟨z, hz⟩ : ∃ z, r[j] = z := ⟨_, rfl⟩
              have cz := HC2.out j (by omega)
              rw [fn_natL hjr, hz] at cz
              have hzx : z < x := by
                rw [← hz, ← HXR.out]
                exact (List.pairwise_iff_getElem.1 HINC.out) j (j + 1) hjr hkr (by omega)
              have d3 : decide (x ≤ z) = false := by simp; omega
              have d4 : decide ((x : Int) ≤ (z : Int)) = false := by simp; omega
              have d5 : decide (0 < j + 1) = true := by simp
              have d6 : decide ((0 : Int) < ((j + 1 : Nat) : Int)) = true := decide_eq_true (by omega)
              have d7 : ((j + 1 : Nat) : Int) - 1 = (j : Int) := by omega
              have d8 : IntKind.i64.wrap (j : Int) = (j : Int) := by rw [IntKind.wrap_i64]; omega
              have hji : (j : Int) < (n : Int) := by omega
              clear hz hzx
              go_wp2_with fail
              go_quiet ((go_at_call 14; with_reducible exact Calls.quiet_of_same (HWC.out _)))
              go_wp2_with fail
              go_roundw
              case rel => exact ⟨j + 1 + 1, _, by omega, by go_num, (HKP.out nq _ rfl).1, hC3.out, (HKP.out nq _ rfl).2.1, (HKP.out nq _ rfl).2.2⟩
              case measure => simp only [intOf]; omega
          · have e : k = n := by omega
            subst e
            have hF2 : Hid (Cnt S2 m (R.take (q + 1)).flatten) := by
              unfold Hid
              rw [HFL.out]
              have := hC2.out
              rwa [List.take_of_length_le (l := r) (by rw [HRN.out]; exact Nat.le_refl _)] at this
            go_wp2_with fail
            go_roundw
            case rel => exact ⟨q + 1, S2, by omega, by go_num, hS2.out, hF2.out, hkeep2.out, hbel2.out⟩
            case measure => simp only [intOf]; omega
      · have e : q = N := by omega
        subst e
        have HF : Hid (∀ x, x < m → fn S x = if 0 ≤ fn X x then 1 else 0) := fun x hx => by
          have h1 := hC.out.2 x hx
          rw [List.take_of_length_le (l := R) (by rw [HN.out]; exact Nat.le_refl _), HCNT.out x (by rw [HM.out]; exact hx)] at h1
          rw [h1]; split <;> rfl
        have HXC : Hid (OwnI wr w4.heap.size (.slice ax m cx) X) := (HRW.out wr hkeep.out).2
        clear hC hkeep
        go_wp2_with fail
        go_loop [12] (fun i => ∃ x : Nat, x ≤ m ∧ i = .int .i64 x) (fun i => m - (intOf i).toNat)
        case atStart => exact ⟨0, Nat.zero_le _, rfl⟩
        case round =>
          obtain ⟨x, hx, rfl⟩ := hrel
          by_cases hxm : x < m
          · have hxi : (x : Int) < (m : Int) := by omega
            obtain ⟨gx, cx', ex, _⟩ := OwnI.form1 HXC.out (by intro e; rw [e] at HM; have := HM.out; simp at this; omega)
            rw [HM.out] at ex
            simp only [Value.slice.injEq] at ex
            obtain ⟨rfl, _, rfl⟩ := ex
            have cv := HXC.out.cellN x hxm
            have cs := hS.out.cellN x hxm
            rw [HF.out x hxm] at cs
            obtain ⟨L, hL⟩ : ∃ L, fn X x = L := ⟨_, rfl⟩
            rw [hL] at cv cs
            clear hL
            by_cases h0 : 0 ≤ L
            · rw [if_pos h0] at cs
              have h1 : ¬ L < 0 := by omega
              go_wp2_with fail
              go_round
              case rel => exact ⟨x + 1, by omega, by go_num⟩
              case measure => simp only [intOf]; omega
            · rw [if_neg h0] at cs
              have h1 : L < 0 := by omega
              go_wp2_with fail
              go_round
              case rel => exact ⟨x + 1, by omega, by go_num⟩
              case measure => simp only [intOf]; omega
          · have e : x = m := by omega
            subst e
            go_wp2_with fail
            go_ret
            exact ⟨rfl, hbel.out⟩
end Go.Proofs.Ytbeecmcgdlnakaa
