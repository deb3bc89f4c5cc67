import Derived.Test.YtfdmldbcblddlaaClusWide2
import Derived.Test.YtfdmldbcblddlaaDraw4
import Derived.Test.YtfdmldbcblddlaaWc
import Derived.Test.YtfdmldbcblddlaaWcHas
import Derived.Deep.RegionWith
namespace Go.Proofs.Ytfdmldbcblddlaa
open Go.ChangeShapes Go.WideShapes Go.ChangeAt Go.RowKit
set_option linter.unusedSimpArgs false

theorem hasG_starts {z : Nat → Int} {n k : Nat} (hk : k < n) : hasG (fn (starts z n)) (starts z n).length (k : Int) = begins z k := by
  cases hb : begins z k
  · refine hasG_false fun j hj e => ?_
    obtain ⟨q, _, h2, h3⟩ := starts_of hj
    have : q = k := by omega
    subst this; rw [hb] at h3; cases h3
  · obtain ⟨i, hi, e⟩ := starts_idx hk hb
    exact hasG_true hi e
theorem wdMax_ge {z : Nat → Int} {p c j : Nat} (hj : j < c) : wd (z (p + j)) ≤ wdMax z p c := by
  induction c with
  | zero => omega
  | succ c ih =>
    simp only [wdMax]
    by_cases e : j = c
    · subst e; split <;> omega
    · have := ih (by omega); split <;> omega
theorem in_cluster {z : Nat → Int} {n i e : Nat} (hi : i < n) (h : Ends z n (atOf z i) e) : i < e := by
  rcases Nat.lt_or_ge i e with c | c
  · exact c
  · exfalso
    have h1 := h.out (by omega)
    have h2 := h.lt
    have := atOf_max z i e c (by simp [begins, h1])
    omega
theorem wide_enough {l : List Int} {i : Nat} {W : Int} (hok : okF (fn l) l.length = true) (hi : i < l.length) (h : WideIs l (atOf (fn l) i : Int) W) : wd (fn l i) ≤ W := by
  have hle := atOf_le (fn l) i
  generalize hA : ((atOf (fn l) i : Nat) : Int) = A at h
  rcases h with ⟨h, _⟩ | ⟨_, h, _⟩ | ⟨p, e0, _, hp, hb, _⟩ | ⟨p, e, e0, _, hp, hb, hE, rfl⟩
  · rw [hok] at h; cases h
  · exfalso; omega
  · have : p = atOf (fn l) i := by omega
    subst this; rw [atOf_begins] at hb; cases hb
  · have : p = atOf (fn l) i := by omega
    subst this
    have h1 := in_cluster hi hE
    have := wdMax_ge (z := fn l) (p := atOf (fn l) i) (c := e - atOf (fn l) i) (j := i - atOf (fn l) i) (by omega)
    rwa [show atOf (fn l) i + (i - atOf (fn l) i) = i by omega] at this

theorem first_zero {z : Nat → Int} {n : Nat} (h : 0 < (starts z n).length) : fn (starts z n) 0 = 0 := by
  obtain ⟨q, h1, h2, _⟩ := starts_of h
  obtain ⟨i, hi, e⟩ := starts_idx (z := z) (n := n) (k := 0) (by omega) (by simp [begins])
  rcases Nat.eq_zero_or_pos i with c | c
  · subst c; exact e
  · have := starts_mono z n 0 i c hi; omega

def lastF (z : Nat → Int) : Nat → Int
  | 0 => -1
  | k + 1 => (atOf z k : Int)
theorem lastF_begins {z : Nat → Int} {k : Nat} (h : begins z k = true) : (k : Int) = lastF z (k + 1) := by
  simp [lastF, (atOf_self z k).2 h]
theorem lastF_joins {z : Nat → Int} {k : Nat} (h : begins z k = false) : lastF z k = lastF z (k + 1) := by
  cases k with
  | zero => simp [begins] at h
  | succ k =>
    simp [begins] at h
    simp [lastF, atOf, h]

set_option maxHeartbeats 1000000 in
theorem drawClus (a : Option Addr) (len cap : Nat) (w : World) (h : Bytes w a len cap) :
    Calls Try.prog 9 #[.slice a len cap] w fun e w' => (∃ v l, e = .returned v ∧ OwnI w' w.heap.size v l ∧ l.length ≤ 81) ∧ Below w.heap.size w w' := by
  go_enter Try.func9, Try.ntmps9
  go_wp2_with fail
  refine (open_any a len cap w h).mono ?_
  rintro e w1 ⟨rfl, hr, hb⟩
  have hl1 := hr.lt
  go_wp2_with fail
  refine (any_any _ 0 _ hr (by omega)).mono ?_
  rintro e w2 ⟨⟨v, l, rfl, hown, hlen⟩, p, hp, hW⟩
  go_wp2_with fail
  go_ret
  exact ⟨⟨_, l, rfl, hown.mono (by omega), hlen⟩, hb.trans (hW.below (Nat.le_refl _) hl1)⟩

set_option maxHeartbeats 8000000 in
theorem clusLaw (a : Option Addr) (len cap : Nat) (w : World) (h : Bytes w a len cap) :
    Calls Try.prog 3 #[.slice a len cap] w fun e w' => e = .returned (.bool true) ∧ Below w.heap.size w w' := by
  by_cases hbig : 1048576 < len
  · have hbig2 : (1048576 : Int) < (len : Int) := by omega
    go_enter Try.func3, Try.ntmps3
    go_wp2_with fail
    go_ret
    exact ⟨rfl, Below.refl _ _⟩
  · have hbig2 : (len : Int) ≤ 1048576 := by omega
    go_enter Try.func3, Try.ntmps3
    go_wp2_with fail
    refine (drawClus a len cap w h).mono ?_
    rintro e w1 ⟨⟨v, l, rfl, ol, hlen⟩, b1⟩
    go_wp2_with fail
    refine (implStarts _ l _ ol.arg (by omega)).mono ?_
    rintro e w2 ⟨⟨vs, rfl, os⟩, b2⟩
    go_wp2_with fail
    refine (specStarts _ l _ (ol.below b2).arg (by omega)).mono ?_
    rintro e w3 ⟨⟨vw, rfl, ow⟩, b3⟩
    have hc80 := clus_len l
    go_wp2_with fail
    refine (wcInts_yes _ _ (clus l) _ (os.below b3).arg ow.arg (by omega)).mono ?_
    rintro e w4 ⟨rfl, b4⟩
    have hB4 := bstep (bstep (bstep b1 b2) b3) b4
    have ol4 := ((ol.below b2).below b3).below b4
    have os4 := (os.below b3).below b4
    clear ol os ow
    rcases os4.forms with ⟨rfl, hs0⟩ | ⟨g, cp, rfl, hg, hgw, hlc, hcm, hats⟩
    · go_wp2_with fail
      refine (specStarts _ l _ ol4.arg (by omega)).mono ?_
      rintro e w5 ⟨⟨vw5, rfl, ow5⟩, b5⟩
      go_wp2_with fail
      refine (wcInts_yes _ _ (clus l) _ (os4.below b5).arg ow5.arg (by omega)).mono ?_
      rintro e w6 ⟨rfl, b6⟩
      go_wp2_with fail
      go_ret
      exact ⟨rfl, bstep (bstep hB4 b5) b6⟩
    · by_cases hm0 : (clus l).length = 0
      · rw [hm0]
        have os5 := os4
        rw [hm0] at os5
        go_wp2_with fail
        refine (specStarts _ l _ ol4.arg (by omega)).mono ?_
        rintro e w5 ⟨⟨vw5, rfl, ow5⟩, b5⟩
        go_wp2_with fail
        refine (wcInts_yes _ _ (clus l) _ (os5.below b5).arg ow5.arg (by omega)).mono ?_
        rintro e w6 ⟨rfl, b6⟩
        go_wp2_with fail
        go_ret
        exact ⟨rfl, bstep (bstep hB4 b5) b6⟩
      · have hok : okF (fn l) l.length = true := by
          cases hok : okF (fn l) l.length
          · rw [clus_bad hok] at hm0; simp at hm0
          · rfl
        obtain ⟨m, hm⟩ : ∃ m, (clus l).length = m := ⟨_, rfl⟩
        have HM : Hid _ := hm
        have HOK : Hid _ := hok
        have hmb : ((m : Int) == 0) = false := by simp; omega
        rw [hm] at hlc hc80 os4 ⊢
        clear hm hm0 hok
        obtain ⟨n, hn⟩ : ∃ n, l.length = n := ⟨_, rfl⟩
        have HN : Hid (l.length = n) := hn
        rcases ol4.forms with ⟨rfl, hl0⟩ | ⟨gl, cl, rfl, hgl, hglw, hlcl, hcml, hatl⟩
        · exfalso
          have := HM.out; rw [clus_ok HOK.out, hl0] at this; simp [starts] at this; simp at hmb; omega
        · rw [hn] at hlen ol4 ⊢
          clear hn hlcl hcml
          go_wp2_with fail
          go_loopw [5, 6] (fun q i wr => ∃ (k : Nat) (L : Int), k ≤ n ∧ i = .int .i64 k ∧ q = .int .i64 L ∧ Hid (L = lastF (fn l) k) ∧ Below w4.heap.size w4 wr) (fun _ i _ => n - (intOf i).toNat)
          case atStart => exact ⟨0, -1, Nat.zero_le _, rfl, rfl, rfl, Below.refl _ _⟩
          case round =>
            obtain ⟨k, L, hk, rfl, rfl, hL, hbel⟩ := hrel
            by_cases hlt : k < n
            · have hhas : Hid (hasG (fn (clus l)) m (k : Int) = begins (fn l) k) := by
                show hasG (fn (clus l)) m (k : Int) = begins (fn l) k
                rw [← HM.out, clus_ok HOK.out]; exact hasG_starts (by rw [HN.out]; exact hlt)
              cases hbeg : begins (fn l) k
              · have HL2 : Hid (L = lastF (fn l) (k + 1)) := by show L = _; rw [hL.out]; exact lastF_joins hbeg
                have hA : Arg wr (.slice (some ⟨gl, 0, none⟩) n cl) l := (ol4.below hbel).arg
                have hc0 : wr.cell? ⟨gl, k, none⟩ = some (.int .i64 (fn l k)) := (ol4.below hbel).cellN k hlt
                have hAR : Hid (atR l (k : Int) = L) := by
                  show atR l (k : Int) = L
                  rw [HL2.out]; exact atR_yes HOK.out (show k < l.length by rw [HN.out]; exact hlt)
                obtain ⟨W, hW⟩ := wideIs_some l L
                have hWk : wd (fn l k) ≤ W := wide_enough HOK.out (show k < l.length by rw [HN.out]; exact hlt) (by have h := hW; rw [HL2.out] at h; exact h)
                have HWI : Hid _ := hW
                clear hW
                go_wp2_with fail
                refine (wcHas_row g 0 m cp (fn (clus l)) _ _ (by omega) (fun j hj => (hats.below hbel hgw) j (by rw [HM.out]; exact hj))).mono ?_
                rintro e w5 ⟨rfl, rfl⟩
                rw [hhas.out]
                go_wp2_with fail
                go_region_with (first | (go_at_call 14; refine (implAt _ l n _ _ _ _ HN rfl (by exact hA.drewN 1) (by omega)).mono ?_; rintro e w6 ⟨rfl, b6⟩; rw [hAR.out]; have hB6 := bstep hbel.drew b6; have hA6 := (ol4.below hB6).arg; have hc6 := (ol4.below hB6).cellN k hlt) | (go_at_call 15; refine (implCW _ l n _ W _ _ _ HN rfl hA6 (by omega) HWI.out).mono ?_; rintro e w7 ⟨rfl, b7⟩; have hB7 := bstep hB6 b7; have hc7 := (ol4.below hB7).cellN k hlt) | (go_at_call 16; refine (implWd _ _).mono ?_; rintro e w8 ⟨rfl, b8⟩))
                all_goals (go_wp2_with fail)
                all_goals (refine ⟨⟨k + 1, L, by omega, by go_num, rfl, HL2, bstep hB7 b8⟩, by simp only [intOf]; omega⟩)
              · have HL2 : Hid ((k : Int) = lastF (fn l) (k + 1)) := lastF_begins hbeg
                have hA : Arg wr (.slice (some ⟨gl, 0, none⟩) n cl) l := (ol4.below hbel).arg
                have hc0 : wr.cell? ⟨gl, k, none⟩ = some (.int .i64 (fn l k)) := (ol4.below hbel).cellN k hlt
                have hAR : Hid (atR l (k : Int) = (k : Int)) := by
                  show atR l (k : Int) = (k : Int)
                  refine Eq.trans ?_ HL2.out.symm; exact atR_yes HOK.out (show k < l.length by rw [HN.out]; exact hlt)
                obtain ⟨W, hW⟩ := wideIs_some l (k : Int)
                have hWk : wd (fn l k) ≤ W := wide_enough HOK.out (show k < l.length by rw [HN.out]; exact hlt) (by have h := hW; rw [HL2.out] at h; exact h)
                have HWI : Hid _ := hW
                clear hW
                go_wp2_with fail
                refine (wcHas_row g 0 m cp (fn (clus l)) _ _ (by omega) (fun j hj => (hats.below hbel hgw) j (by rw [HM.out]; exact hj))).mono ?_
                rintro e w5 ⟨rfl, rfl⟩
                rw [hhas.out]
                go_wp2_with fail
                go_region_with (first | (go_at_call 14; refine (implAt _ l n _ _ _ _ HN rfl (by exact hA.drewN 1) (by omega)).mono ?_; rintro e w6 ⟨rfl, b6⟩; rw [hAR.out]; have hB6 := bstep hbel.drew b6; have hA6 := (ol4.below hB6).arg; have hc6 := (ol4.below hB6).cellN k hlt) | (go_at_call 15; refine (implCW _ l n _ W _ _ _ HN rfl hA6 (by omega) HWI.out).mono ?_; rintro e w7 ⟨rfl, b7⟩; have hB7 := bstep hB6 b7; have hc7 := (ol4.below hB7).cellN k hlt) | (go_at_call 16; refine (implWd _ _).mono ?_; rintro e w8 ⟨rfl, b8⟩))
                all_goals (go_wp2_with fail)
                all_goals (refine ⟨⟨k + 1, (k : Int), by omega, by go_num, rfl, HL2, bstep hB7 b8⟩, by simp only [intOf]; omega⟩)
            · have hf0 : wr.cell? ⟨g, 0, none⟩ = some (.int .i64 0) := by
                have h1 := (hats.below hbel hgw) 0 (by rw [HM.out]; simp at hmb; omega)
                rw [Nat.add_zero] at h1
                rw [h1, clus_ok HOK.out, first_zero]
                have h2 := HM.out
                rw [clus_ok HOK.out] at h2
                simp at hmb; omega
              have hmp : (0 : Int) < (m : Int) := by simp at hmb; omega
              go_wp2_with fail
              go_ret
              exact ⟨rfl, hB4.trans (hbel.mono hB4.size)⟩
end Go.Proofs.Ytfdmldbcblddlaa
