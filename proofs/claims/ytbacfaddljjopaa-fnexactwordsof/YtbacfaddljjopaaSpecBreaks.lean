import Derived.Test.YtbacfaddljjopaaSpecCount
import Derived.Test.YtbacfaddljjopaaJoins
import Derived.Test.YtbacfaddljjopaaStepApp
import Derived.Deep.DrawnRows
namespace Go.Proofs.Ytbacfaddljjopaa
open Go.ChangeShapes Go.WideShapes Go.ChangeAt Go.RowKit
set_option linter.unusedSimpArgs false
set_option linter.unusedVariables false
attribute [local go_sem ↓] Go.wp_at_zero Go.wp_at_succ

def brkN (z : Nat → Int) (n k : Nat) : List Int := (List.range k).map (brkAt z n)
theorem brkN_succ (z : Nat → Int) (n k : Nat) : brkN z n (k + 1) = brkN z n k ++ [brkAt z n k] := by simp [brkN, List.range_succ]
theorem brkN_len (z : Nat → Int) (n k : Nat) : (brkN z n k).length = k := by simp [brkN]
theorem specJoins_is (b off cap n : Nat) (l : List Int) (a : Int) (p : Nat) (w : World) (hn : Hid (l.length = n)) (hb : b < w.heap.size) (hat : At w b off l) (hl : n ≤ 4194304) (ha : a = (p : Int) + 1) (hp : p + 1 < n) (q : Bool) (hq : Hid (joins (fn l) (p + 1) = q)) :
    Calls Try.prog 89 #[.slice (some ⟨b, off, none⟩) n cap, .int .i64 a] w fun e w' => e = .returned (.bool q) ∧ Below w.heap.size w w' := by
  rw [← hq.out]; exact specJoins b off cap n l a p w hn.out hb hat hl ha hp

set_option maxRecDepth 10000 in
set_option maxHeartbeats 16000000 in
theorem specBreaks_row (b off cap n : Nat) (l : List Int) (w : World) (hn : Hid (l.length = n)) (hn0 : 0 < n) (hl : n ≤ 80) (hb : b < w.heap.size) (hat : At w b off l) :
    Calls Try.prog 76 #[.slice (some ⟨b, off, none⟩) n cap] w fun e w' => (∃ v', e = .returned v' ∧ OwnI w' w.heap.size v' (brkN (fn l) n n)) ∧ Below w.heap.size w w' := by
  go_enter Try.func76, Try.ntmps76
  go_wp2_with fail
  refine (specCount_row b off cap n l w hn hl hb hat).mono ?_
  rintro e w1 ⟨⟨vl, rfl, ol⟩, b1⟩
  obtain ⟨gl, cpl, rfl⟩ := ol.sliceN (ctdN_len _ _) hn0
  have hgl := (ol.lt gl rfl).2
  have hs1 := b1.size
  go_wp2_with fail
  go_loopw [4, 5] (fun q i wr => ∃ k : Nat, k ≤ n ∧ i = .int .i64 k ∧ OwnI wr w1.heap.size q (brkN (fn l) n k) ∧ Below w1.heap.size w1 wr) (fun _ i _ => n - (intOf i).toNat)
  case atStart => exact ⟨0, Nat.zero_le _, rfl, own_empty _ _ _ (Nat.le_refl _) rfl, by go_grown⟩
  case round =>
    obtain ⟨k, hk, rfl, hown, hbel⟩ := hrel
    have hsz := hbel.size
    have hB1 := b1.trans (hbel.mono hs1)
    by_cases hlt : k < n
    · have hle := brkN_len (fn l) n k
      have HLE : Hid _ := hle
      clear hle
      have hki : (k : Int) < (n : Int) := by omega
      have hcl : ∀ j, j < n → wr.cell? ⟨gl, j, none⟩ = some (.int .i64 (ctd (fn l) j)) := fun j hj => by rw [(ol.below hbel).cellN j hj, fn_ctdN hj]
      have hgw : gl < wr.heap.size := Nat.lt_of_lt_of_le hgl hsz
      have HCL : Hid _ := hcl
      clear hcl
      by_cases hlast : k + 1 = n
      · have HN : Hid (brkN (fn l) n (k + 1) = brkN (fn l) n k ++ [2]) := by show _ = _; rw [brkN_succ]; unfold brkAt; rw [if_pos hlast]
        have g1 : (((k : Int) + 1) == (n : Int)) = true := by simp; omega
        have BX := hbel
        have OX := hown
        clear hlast
        go_wp2_with (at_builtin; refine own_append (.tmp 46) (.tmp 47) OX (by rw [HLE.out]; omega) BX.size rfl rfl rfl rfl ?_; intro v9 w9 hown9 hgr9)
        exact ⟨⟨k + 1, by omega, by go_num, by rw [HN.out]; exact hown9, grown_below BX hgr9 OX (Nat.le_refl _) BX.size⟩, by simp only [intOf]; omega⟩
      · have g1 : (((k : Int) + 1) == (n : Int)) = false := by simp; omega
        have hk1 : k + 1 < n := by omega
        have hat' := hat.below hB1 hb
        have r1 : wr.cell? ⟨b, off + (k + 1), none⟩ = some (.int .i64 (fn l (k + 1))) := hat' (k + 1) (by rw [hn.out]; omega)
        have d0 := HCL.out k hlt
        have d1 := HCL.out (k + 1) hk1
        obtain ⟨D, hD⟩ : ∃ D, ctd (fn l) k = D := ⟨_, rfl⟩
        obtain ⟨E, hE⟩ : ∃ E, ctd (fn l) (k + 1) = E := ⟨_, rfl⟩
        obtain ⟨S, hS⟩ : ∃ S, solC (fn l) (k + 1) = S := ⟨_, rfl⟩
        obtain ⟨J, hJ⟩ : ∃ J, joins (fn l) (k + 1) = J := ⟨_, rfl⟩
        obtain ⟨C, hC⟩ : ∃ C, lineI (fn l (k + 1)) = C := ⟨_, rfl⟩
        obtain ⟨R, hR⟩ : ∃ R, place D E S = R := ⟨_, rfl⟩
        have hDr := (ctd_rng (fn l) k).1
        rw [hD] at hDr
        have HF : Hid (brkAt (fn l) n k = if J = true ∨ (C = 7 ∧ ¬ (D = 3 ∨ D = 4 ∨ D = 6)) then 0 else R) := by
          show _ = _
          unfold brkAt; rw [if_neg hlast, hJ, hC, hD, hE, hS, hR, bear_pos hDr]; simp
        have HNS : Hid (brkN (fn l) n (k + 1) = brkN (fn l) n k ++ [brkAt (fn l) n k]) := brkN_succ _ _ _
        have HJ : Hid _ := hJ
        have HC : Hid _ := hC
        have HR : Hid _ := hR
        have HSS : Hid _ := hS
        rw [hD] at d0
        rw [hE] at d1
        have i1 : (k : Int) + 1 < (n : Int) := by omega
        have i2 : (0 : Int) ≤ (k : Int) + 1 := by omega
        have i3 : ((k : Int) + 1).toNat = k + 1 := by omega
        have i4 : IntKind.i64.wrap ((k : Int) + 1) = (k : Int) + 1 := by rw [IntKind.wrap_i64]; omega
        clear hD hE hS hJ hC hR hDr hlast
        have HA : Hid _ := hat'
        have bw : b < wr.heap.size := Nat.lt_of_lt_of_le hb hB1.size
        clear hat'
        have R1 : Hid _ := r1
        have D0 : Hid _ := d0
        have D1 : Hid _ := d1
        clear r1 d0 d1
        cases J with
        | true =>
          have HN : Hid (brkN (fn l) n (k + 1) = brkN (fn l) n k ++ [0]) := by show _ = _; rw [HNS.out, HF.out]; simp
          go_wp2_with fail
          refine (specJoins_is b off cap n l _ k _ hn bw HA.out (by omega) rfl hk1 true HJ).mono ?_
          rintro e w5 ⟨rfl, b5⟩
          have BX := hbel.trans (b5.mono hsz)
          have OX := hown.below b5
          go_wp2_with (at_builtin; refine own_append (.tmp 84) (.tmp 85) OX (by rw [HLE.out]; omega) BX.size rfl rfl rfl rfl ?_; intro v9 w9 hown9 hgr9)
          exact ⟨⟨k + 1, by omega, by go_num, by rw [HN.out]; exact hown9, grown_below BX hgr9 OX (Nat.le_refl _) BX.size⟩, by simp only [intOf]; omega⟩
        | false =>
          by_cases h7 : C = 7
          · subst h7
            by_cases q : D = 3 ∨ D = 4 ∨ D = 6
            · have HN : Hid (brkN (fn l) n (k + 1) = brkN (fn l) n k ++ [R]) := by show _ = _; rw [HNS.out, HF.out, if_neg (by simp [q])]
              go_wp2_with fail
              refine (specJoins_is b off cap n l _ k _ hn bw HA.out (by omega) rfl hk1 false HJ).mono ?_
              rintro e w5 ⟨rfl, b5⟩
              have r1 := (b5.cell (p := ⟨b, off + (k + 1), none⟩) bw).trans R1.out
              go_wp2_with fail
              refine (specLine_is _ 7 _ HC).mono ?_
              rintro e w6 ⟨rfl, b6⟩
              have B6 := bstep b5 b6
              have BX := hbel.trans (B6.mono hsz)
              have OX := hown.below B6
              have hsX := BX.size
              have HCX : Hid (∀ j, j < n → w6.cell? ⟨gl, j, none⟩ = some (.int .i64 (ctd (fn l) j))) := fun j hj => (B6.cell (p := ⟨gl, j, none⟩) hgw).trans (HCL.out j hj)
              have d0 := (B6.cell (p := ⟨gl, k, none⟩) hgw).trans D0.out
              have d1 := (B6.cell (p := ⟨gl, k + 1, none⟩) hgw).trans D1.out
              clear r1
              rcases q with rfl | rfl | rfl
              · go_wp2_with fail
                refine (specBefore gl cpl n k l _ HCX hlt (by omega)).mono ?_
                rintro e w7 ⟨⟨r, rfl, hr⟩, rfl⟩
                rcases hr with ⟨rfl, hs⟩ | ⟨j, rfl, hj, hs⟩
                · have HR0 : Hid (place 3 E 0 = R) := by show _ = _; rw [← HR.out, ← HSS.out, hs]
                  clear hs
                  go_wp2_with fail
                  go_region_law (first | (refine step_own1 (xv := R) (ad := w7.heap.size) (.tmp 26) (.tmp 38) (OX.below (by first | exact ((Below.refl _ _).alloc (Nat.le_refl _) _).drew | exact ((Below.refl _ _).drew.alloc (Nat.le_refl _) _))) (by rw [HLE.out]; omega) (by simp; omega) (by simp) (by rfl) (by rfl) (by rfl) (by rfl) ?_; intro v9 w9 hown9 hgr9) | (go_simp; refine (specPlace _ _ _ _ R HR0).mono ?_; rintro e w8 ⟨rfl, rfl⟩))
                  all_goals (go_wp2_with fail)
                  all_goals exact ⟨⟨k + 1, by omega, by go_num, by rw [HN.out]; exact hown9, (BX.alloc BX.size _).drew.grown hgr9 (by simp; omega) (fun kk hkk => (OX.lt kk hkk).1)⟩, by simp only [intOf]; omega⟩
                · have cj := HCX.out j (by omega)
                  rw [hs, HSS.out] at cj
                  have hji : (j : Int) < (n : Int) := by omega
                  clear hs
                  go_wp2_with fail
                  go_region_law (first | (refine step_own1 (xv := R) (ad := w7.heap.size) (.tmp 26) (.tmp 38) (OX.below (by first | exact ((Below.refl _ _).alloc (Nat.le_refl _) _).drew | exact ((Below.refl _ _).drew.alloc (Nat.le_refl _) _))) (by rw [HLE.out]; omega) (by simp; omega) (by simp) (by rfl) (by rfl) (by rfl) (by rfl) ?_; intro v9 w9 hown9 hgr9) | (go_simp; refine (specPlace _ _ _ _ R HR).mono ?_; rintro e w8 ⟨rfl, rfl⟩))
                  all_goals (go_wp2_with fail)
                  all_goals exact ⟨⟨k + 1, by omega, by go_num, by rw [HN.out]; exact hown9, (BX.alloc BX.size _).drew.grown hgr9 (by simp; omega) (fun kk hkk => (OX.lt kk hkk).1)⟩, by simp only [intOf]; omega⟩
              · go_wp2_with fail
                refine (specBefore gl cpl n k l _ HCX hlt (by omega)).mono ?_
                rintro e w7 ⟨⟨r, rfl, hr⟩, rfl⟩
                rcases hr with ⟨rfl, hs⟩ | ⟨j, rfl, hj, hs⟩
                · have HR0 : Hid (place 4 E 0 = R) := by show _ = _; rw [← HR.out, ← HSS.out, hs]
                  clear hs
                  go_wp2_with fail
                  go_region_law (first | (refine step_own1 (xv := R) (ad := w7.heap.size) (.tmp 26) (.tmp 38) (OX.below (by first | exact ((Below.refl _ _).alloc (Nat.le_refl _) _).drew | exact ((Below.refl _ _).drew.alloc (Nat.le_refl _) _))) (by rw [HLE.out]; omega) (by simp; omega) (by simp) (by rfl) (by rfl) (by rfl) (by rfl) ?_; intro v9 w9 hown9 hgr9) | (go_simp; refine (specPlace _ _ _ _ R HR0).mono ?_; rintro e w8 ⟨rfl, rfl⟩))
                  all_goals (go_wp2_with fail)
                  all_goals exact ⟨⟨k + 1, by omega, by go_num, by rw [HN.out]; exact hown9, (BX.alloc BX.size _).drew.grown hgr9 (by simp; omega) (fun kk hkk => (OX.lt kk hkk).1)⟩, by simp only [intOf]; omega⟩
                · have cj := HCX.out j (by omega)
                  rw [hs, HSS.out] at cj
                  have hji : (j : Int) < (n : Int) := by omega
                  clear hs
                  go_wp2_with fail
                  go_region_law (first | (refine step_own1 (xv := R) (ad := w7.heap.size) (.tmp 26) (.tmp 38) (OX.below (by first | exact ((Below.refl _ _).alloc (Nat.le_refl _) _).drew | exact ((Below.refl _ _).drew.alloc (Nat.le_refl _) _))) (by rw [HLE.out]; omega) (by simp; omega) (by simp) (by rfl) (by rfl) (by rfl) (by rfl) ?_; intro v9 w9 hown9 hgr9) | (go_simp; refine (specPlace _ _ _ _ R HR).mono ?_; rintro e w8 ⟨rfl, rfl⟩))
                  all_goals (go_wp2_with fail)
                  all_goals exact ⟨⟨k + 1, by omega, by go_num, by rw [HN.out]; exact hown9, (BX.alloc BX.size _).drew.grown hgr9 (by simp; omega) (fun kk hkk => (OX.lt kk hkk).1)⟩, by simp only [intOf]; omega⟩
              · go_wp2_with fail
                refine (specBefore gl cpl n k l _ HCX hlt (by omega)).mono ?_
                rintro e w7 ⟨⟨r, rfl, hr⟩, rfl⟩
                rcases hr with ⟨rfl, hs⟩ | ⟨j, rfl, hj, hs⟩
                · have HR0 : Hid (place 6 E 0 = R) := by show _ = _; rw [← HR.out, ← HSS.out, hs]
                  clear hs
                  go_wp2_with fail
                  go_region_law (first | (refine step_own1 (xv := R) (ad := w7.heap.size) (.tmp 26) (.tmp 38) (OX.below (by first | exact ((Below.refl _ _).alloc (Nat.le_refl _) _).drew | exact ((Below.refl _ _).drew.alloc (Nat.le_refl _) _))) (by rw [HLE.out]; omega) (by simp; omega) (by simp) (by rfl) (by rfl) (by rfl) (by rfl) ?_; intro v9 w9 hown9 hgr9) | (go_simp; refine (specPlace _ _ _ _ R HR0).mono ?_; rintro e w8 ⟨rfl, rfl⟩))
                  all_goals (go_wp2_with fail)
                  all_goals exact ⟨⟨k + 1, by omega, by go_num, by rw [HN.out]; exact hown9, (BX.alloc BX.size _).drew.grown hgr9 (by simp; omega) (fun kk hkk => (OX.lt kk hkk).1)⟩, by simp only [intOf]; omega⟩
                · have cj := HCX.out j (by omega)
                  rw [hs, HSS.out] at cj
                  have hji : (j : Int) < (n : Int) := by omega
                  clear hs
                  go_wp2_with fail
                  go_region_law (first | (refine step_own1 (xv := R) (ad := w7.heap.size) (.tmp 26) (.tmp 38) (OX.below (by first | exact ((Below.refl _ _).alloc (Nat.le_refl _) _).drew | exact ((Below.refl _ _).drew.alloc (Nat.le_refl _) _))) (by rw [HLE.out]; omega) (by simp; omega) (by simp) (by rfl) (by rfl) (by rfl) (by rfl) ?_; intro v9 w9 hown9 hgr9) | (go_simp; refine (specPlace _ _ _ _ R HR).mono ?_; rintro e w8 ⟨rfl, rfl⟩))
                  all_goals (go_wp2_with fail)
                  all_goals exact ⟨⟨k + 1, by omega, by go_num, by rw [HN.out]; exact hown9, (BX.alloc BX.size _).drew.grown hgr9 (by simp; omega) (fun kk hkk => (OX.lt kk hkk).1)⟩, by simp only [intOf]; omega⟩
            · have HN : Hid (brkN (fn l) n (k + 1) = brkN (fn l) n k ++ [0]) := by show _ = _; rw [HNS.out, HF.out, if_pos (.inr ⟨rfl, q⟩)]
              have n3 : (D != 3) = true := by simp; omega
              have n4 : (D != 4) = true := by simp; omega
              have n6 : (D != 6) = true := by simp; omega
              clear q
              go_wp2_with fail
              refine (specJoins_is b off cap n l _ k _ hn bw HA.out (by omega) rfl hk1 false HJ).mono ?_
              rintro e w5 ⟨rfl, b5⟩
              have r1 := (b5.cell (p := ⟨b, off + (k + 1), none⟩) bw).trans R1.out
              go_wp2_with fail
              refine (specLine_is _ 7 _ HC).mono ?_
              rintro e w6 ⟨rfl, b6⟩
              have B6 := bstep b5 b6
              have BX := hbel.trans (B6.mono hsz)
              have OX := hown.below B6
              have d0 := (B6.cell (p := ⟨gl, k, none⟩) hgw).trans D0.out
              clear r1
              go_wp2_with (at_builtin; refine own_append (.tmp 84) (.tmp 85) OX (by rw [HLE.out]; omega) BX.size rfl rfl rfl rfl ?_; intro v9 w9 hown9 hgr9)
              exact ⟨⟨k + 1, by omega, by go_num, by rw [HN.out]; exact hown9, grown_below BX hgr9 OX (Nat.le_refl _) BX.size⟩, by simp only [intOf]; omega⟩
          · have g7 : (C == 7) = false := by simpa using h7
            have HN : Hid (brkN (fn l) n (k + 1) = brkN (fn l) n k ++ [R]) := by show _ = _; rw [HNS.out, HF.out, if_neg (by simp [h7])]
            clear h7
            go_wp2_with fail
            refine (specJoins_is b off cap n l _ k _ hn bw HA.out (by omega) rfl hk1 false HJ).mono ?_
            rintro e w5 ⟨rfl, b5⟩
            have r1 := (b5.cell (p := ⟨b, off + (k + 1), none⟩) bw).trans R1.out
            go_wp2_with fail
            refine (specLine_is _ C _ HC).mono ?_
            rintro e w6 ⟨rfl, b6⟩
            have B6 := bstep b5 b6
            have BX := hbel.trans (B6.mono hsz)
            have OX := hown.below B6
            have hsX := BX.size
            have HCX : Hid (∀ j, j < n → w6.cell? ⟨gl, j, none⟩ = some (.int .i64 (ctd (fn l) j))) := fun j hj => (B6.cell (p := ⟨gl, j, none⟩) hgw).trans (HCL.out j hj)
            have d0 := (B6.cell (p := ⟨gl, k, none⟩) hgw).trans D0.out
            have d1 := (B6.cell (p := ⟨gl, k + 1, none⟩) hgw).trans D1.out
            clear r1
            go_wp2_with fail
            refine (specBefore gl cpl n k l _ HCX hlt (by omega)).mono ?_
            rintro e w7 ⟨⟨r, rfl, hr⟩, rfl⟩
            rcases hr with ⟨rfl, hs⟩ | ⟨j, rfl, hj, hs⟩
            · have HR0 : Hid (place D E 0 = R) := by show _ = _; rw [← HR.out, ← HSS.out, hs]
              clear hs
              go_wp2_with fail
              go_region_law (first | (refine step_own1 (xv := R) (ad := w7.heap.size) (.tmp 26) (.tmp 38) (OX.below (by first | exact ((Below.refl _ _).alloc (Nat.le_refl _) _).drew | exact ((Below.refl _ _).drew.alloc (Nat.le_refl _) _))) (by rw [HLE.out]; omega) (by simp; omega) (by simp) (by rfl) (by rfl) (by rfl) (by rfl) ?_; intro v9 w9 hown9 hgr9) | (go_simp; refine (specPlace _ _ _ _ R HR0).mono ?_; rintro e w8 ⟨rfl, rfl⟩))
              all_goals (go_wp2_with fail)
              all_goals exact ⟨⟨k + 1, by omega, by go_num, by rw [HN.out]; exact hown9, (BX.alloc BX.size _).drew.grown hgr9 (by simp; omega) (fun kk hkk => (OX.lt kk hkk).1)⟩, by simp only [intOf]; omega⟩
            · have cj := HCX.out j (by omega)
              rw [hs, HSS.out] at cj
              have hji : (j : Int) < (n : Int) := by omega
              clear hs
              go_wp2_with fail
              go_region_law (first | (refine step_own1 (xv := R) (ad := w7.heap.size) (.tmp 26) (.tmp 38) (OX.below (by first | exact ((Below.refl _ _).alloc (Nat.le_refl _) _).drew | exact ((Below.refl _ _).drew.alloc (Nat.le_refl _) _))) (by rw [HLE.out]; omega) (by simp; omega) (by simp) (by rfl) (by rfl) (by rfl) (by rfl) ?_; intro v9 w9 hown9 hgr9) | (go_simp; refine (specPlace _ _ _ _ R HR).mono ?_; rintro e w8 ⟨rfl, rfl⟩))
              all_goals (go_wp2_with fail)
              all_goals exact ⟨⟨k + 1, by omega, by go_num, by rw [HN.out]; exact hown9, (BX.alloc BX.size _).drew.grown hgr9 (by simp; omega) (fun kk hkk => (OX.lt kk hkk).1)⟩, by simp only [intOf]; omega⟩
    · have e : k = n := by omega
      subst e
      go_wp2_with fail
      go_ret
      exact ⟨⟨_, rfl, hown.mono hs1⟩, hB1⟩
end Go.Proofs.Ytbacfaddljjopaa
