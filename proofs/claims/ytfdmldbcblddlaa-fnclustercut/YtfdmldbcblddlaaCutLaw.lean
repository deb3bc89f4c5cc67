import Derived.Test.YtfdmldbcblddlaaClusWide2
import Derived.Test.YtfdmldbcblddlaaDraw4
import Derived.Test.YtfdmldbcblddlaaWc
namespace Go.Proofs.Ytfdmldbcblddlaa
open Go.ChangeShapes Go.WideShapes Go.ChangeAt Go.RowKit
set_option linter.unusedSimpArgs false

theorem runOf_congr {z y : Nat → Int} {n : Nat} (h : ∀ j, j < n → z j = y j) : runOf z n = runOf y n := by
  induction n with
  | zero => rfl
  | succ n ih => simp only [runOf]; rw [h n (by omega), ih (fun j hj => h j (by omega))]
theorem begins_congr {z y : Nat → Int} {n k : Nat} (h : ∀ j, j < n → z j = y j) (hk : k < n) : begins z k = begins y k := by
  unfold begins joins
  rw [h k hk, h (k - 1) (by omega), runOf_congr (fun j hj => h j (by omega))]
theorem starts_congr {z y : Nat → Int} {n : Nat} (h : ∀ j, j < n → z j = y j) : starts z n = starts y n := by
  have : ∀ m, m ≤ n → starts z m = starts y m := by
    intro m
    induction m with
    | zero => intro _; rfl
    | succ m ih => intro hm; simp only [starts]; rw [begins_congr h (by omega), ih (by omega)]
  exact this n (Nat.le_refl _)
theorem starts_split (z : Nat → Int) (q d : Nat) : ∃ r, starts z (q + d) = starts z q ++ r ∧ ∀ x ∈ r, (q : Int) ≤ x := by
  induction d with
  | zero => exact ⟨[], by simp, by simp⟩
  | succ d ih =>
    obtain ⟨r, h1, h2⟩ := ih
    rw [show q + (d + 1) = q + d + 1 by omega]
    simp only [starts]
    split
    · refine ⟨r ++ [((q + d : Nat) : Int)], by rw [h1, List.append_assoc], fun x hx => ?_⟩
      rw [List.mem_append] at hx
      rcases hx with hx | hx
      · exact h2 x hx
      · simp at hx; omega
    · exact ⟨r, h1, h2⟩
/-- What is told of a cut: so many begin ahead of it, and it is the next beginning. -/
theorem cut_facts {z : Nat → Int} {n q : Nat} (hq : q < n) (hb : begins z q = true) :
    (starts z n).take (starts z q).length = starts z q ∧ (starts z q).length < (starts z n).length ∧ fn (starts z n) (starts z q).length = (q : Int) ∧ ∀ j, j < (starts z q).length → fn (starts z n) j < (q : Int) := by
  obtain ⟨r, h1, h2⟩ := starts_split z q (n - q)
  rw [show q + (n - q) = n by omega] at h1
  have hlow : ∀ j, j < (starts z q).length → fn (starts z n) j < (q : Int) := by
    intro j hj
    rw [h1, fn_append_left hj]
    obtain ⟨k, h3, h4, _⟩ := starts_of hj
    omega
  obtain ⟨i, hi, e⟩ := starts_idx hq hb
  have hge : (starts z q).length ≤ i := by
    rcases Nat.lt_or_ge i (starts z q).length with c | c
    · have := hlow i c; omega
    · exact c
  have hlt : (starts z q).length < (starts z n).length := by omega
  refine ⟨by rw [h1]; simp, hlt, ?_, hlow⟩
  have hr : (q : Int) ≤ fn (starts z n) (starts z q).length := by
    rw [fn_get hlt]
    have : (starts z n)[(starts z q).length] ∈ r := by
      have h3 : (starts z n)[(starts z q).length]? = r[0]? := by rw [h1, List.getElem?_append_right (Nat.le_refl _), Nat.sub_self]
      rw [List.getElem?_eq_getElem hlt] at h3
      exact List.mem_of_getElem? h3.symm
    exact h2 _ this
  rcases Nat.lt_or_ge (starts z q).length i with c | c
  · have := starts_mono z n _ i c hi; omega
  · have : (starts z q).length = i := by omega
    rw [this]; exact e

theorem fn_take_lt {l : List Int} {q j : Nat} (h : j < q) : fn l j = fn (l.take q) j := (fn_take h).symm
theorem clus_take {l : List Int} {q : Nat} (hok : okF (fn l) l.length = true) (hq : q ≤ l.length) : clus (l.take q) = starts (fn l) q := by
  have hl : (l.take q).length = q := by rw [List.length_take]; omega
  have h2 : okF (fn (l.take q)) (l.take q).length = true := by
    rw [hl]
    have h3 := okF_len hok
    rw [okF_all (fun j hj => by rw [fn_take hj]; exact okF_get hok (by omega))]
    simp; omega
  rw [clus_ok h2, hl]
  exact starts_congr (fun j hj => fn_take hj)

set_option maxHeartbeats 1000000 in
theorem drawClusAt (a : Option Addr) (len cap : Nat) (w : World) (h : Bytes w a len cap) :
    Calls Try.prog 17 #[.slice a len cap] w fun e w' => (∃ v l t, e = .returned (.tuple #[v, .int .i64 t]) ∧ OwnI w' w.heap.size v l ∧ l.length ≤ 81) ∧ Below w.heap.size w w' := by
  go_enter Try.func17, Try.ntmps17
  go_wp2_with fail
  refine (open_any a len cap w h).mono ?_
  rintro e w1 ⟨rfl, hr, hb⟩
  have hl1 := hr.lt
  go_wp2_with fail
  refine (any_any _ 0 _ hr (by omega)).mono ?_
  rintro e w2 ⟨⟨v, l, rfl, hown, hlen⟩, p, hp, hW⟩
  have hB2 := hb.trans (hW.below (Nat.le_refl _) hl1)
  have hR := hW.rd
  obtain ⟨a1, c1, rfl⟩ : ∃ a1 c1, v = .slice a1 l.length c1 := by
    rcases hown.forms with ⟨rfl, rfl⟩ | ⟨g, c, rfl, _⟩
    · exact ⟨_, _, rfl⟩
    · exact ⟨_, _, rfl⟩
  clear hW
  go_wp2_with fail
  refine (pick_went _ p _ _ hR (by omega) (by omega) (by omega)).mono ?_
  rintro e w3 ⟨⟨k, rfl, hk⟩, hW3, hsz⟩
  have hB3 := hB2.trans (hW3.below (Nat.le_refl _) hR.lt)
  have hown3 := (hown.went hW3 (by omega)).mono (B' := w.heap.size) (by omega)
  clear hW3 hsz
  go_wp2_with fail
  go_ret2
  exact ⟨⟨_, l, _, rfl, hown3, hlen⟩, hB3⟩

theorem At.take {w : World} {b off q : Nat} {l : List Int} (h : At w b off l) : At w b off (l.take q) := by
  intro j hj
  rw [List.length_take] at hj
  rw [fn_take (by omega)]
  exact h j (by omega)
theorem arg_take {w : World} {b off q cap : Nat} {l : List Int} (h : At w b off l) (hb : b < w.heap.size) (hq : q ≤ l.length) (hc : l.length ≤ cap) (hm : cap ≤ maxLen) : Arg w (.slice (some ⟨b, off, none⟩) q cap) (l.take q) := by
  have hl : (l.take q).length = q := by rw [List.length_take]; omega
  exact .inr ⟨b, off, cap, by rw [hl], hb, by omega, hm, h.take⟩

set_option maxHeartbeats 8000000 in
theorem cutLaw (a : Option Addr) (len cap : Nat) (w : World) (h : Bytes w a len cap) :
    Calls Try.prog 4 #[.slice a len cap] w fun e w' => e = .returned (.bool true) ∧ Below w.heap.size w w' := by
  by_cases hbig : 1048576 < len
  · have hbig2 : (1048576 : Int) < (len : Int) := by omega
    go_enter Try.func4, Try.ntmps4
    go_wp2_with fail
    go_ret
    exact ⟨rfl, Below.refl _ _⟩
  · have hbig2 : (len : Int) ≤ 1048576 := by omega
    go_enter Try.func4, Try.ntmps4
    go_wp2_with fail
    refine (drawClusAt a len cap w h).mono ?_
    rintro e w1 ⟨⟨v, l, t, rfl, ol, hlen⟩, b1⟩
    obtain ⟨W, hW⟩ := wideIs_some l t
    have HW : Hid _ := hW
    clear hW
    obtain ⟨n, hn⟩ : ∃ n, l.length = n := ⟨_, rfl⟩
    have HN : Hid (l.length = n) := hn
    obtain ⟨a1, c1, rfl⟩ : ∃ a1 c1, v = .slice a1 n c1 := by
      rcases ol.forms with ⟨rfl, h0⟩ | ⟨g, c, rfl, _⟩
      · rw [h0] at hn; simp at hn; subst hn; exact ⟨_, _, rfl⟩
      · rw [hn]; exact ⟨_, _, rfl⟩
    rw [hn] at hlen
    clear hn
    go_wp2_with fail
    refine (implAt _ l n _ _ _ _ HN rfl ol.arg (by omega)).mono ?_
    rintro e w2 ⟨rfl, b2⟩
    go_wp2_with fail
    refine (specAt _ l n _ _ _ _ HN rfl (ol.below b2).arg (by omega)).mono ?_
    rintro e w3 ⟨rfl, b3⟩
    go_wp2_with fail
    refine (implCW _ l n _ W _ _ _ HN rfl ((ol.below b2).below b3).arg (by omega) HW.out).mono ?_
    rintro e w4 ⟨rfl, b4⟩
    go_wp2_with fail
    refine (specCW _ l n _ W _ _ _ HN rfl (((ol.below b2).below b3).below b4).arg (by omega) HW.out).mono ?_
    rintro e w5 ⟨rfl, b5⟩
    have hB5 := bstep (bstep (bstep (bstep b1 b2) b3) b4) b5
    have ol5 := (((ol.below b2).below b3).below b4).below b5
    clear ol
    by_cases hin : okF (fn l) l.length = true ∧ 0 ≤ t ∧ t < (n : Int)
    · obtain ⟨hok, ht0, ht1⟩ := hin
      obtain ⟨p, rfl⟩ : ∃ p : Nat, t = (p : Int) := ⟨t.toNat, by omega⟩
      have hpn : p < n := by omega
      obtain ⟨q, hq⟩ : ∃ q, atOf (fn l) p = q := ⟨_, rfl⟩
      have hqn : q < n := by have := atOf_le (fn l) p; omega
      have hqb : begins (fn l) q = true := by rw [← hq]; exact atOf_begins _ _
      have HA : Hid (atR l (p : Int) = (q : Int)) := by
        show atR l (p : Int) = (q : Int)
        rw [atR_yes hok (by rw [HN.out]; exact hpn), hq]
      have HQ : Hid (atR l (q : Int) = (q : Int)) := by
        show atR l (q : Int) = (q : Int)
        rw [atR_yes hok (by rw [HN.out]; exact hqn), (atOf_self _ _).2 hqb]
      obtain ⟨f1, f2, f3, f4⟩ := cut_facts (z := fn l) (n := n) hqn hqb
      have HOK : Hid _ := hok
      rcases ol5.forms with ⟨hl0, _⟩ | ⟨gl, cl, hlv, hgl, hglw, hlcl, hcml, hatl⟩
      · exfalso; cases hl0; omega
      · rw [HN.out] at hlv hlcl
        simp only [Value.slice.injEq] at hlv
        obtain ⟨rfl, _, rfl⟩ := hlv
        have HT : Hid (clus (l.take q) = starts (fn l) q) := clus_take hok (by rw [HN.out]; omega)
        have HC : Hid (clus l = starts (fn l) n) := by show clus l = _; rw [clus_ok hok, HN.out]
        clear hq hqb hok
        rw [HA.out]
        have hqi : (q : Int) ≤ (c1 : Int) := by omega
        go_wp2_with fail
        refine (implStarts _ l _ ol5.arg (by rw [HN.out]; omega)).mono ?_
        rintro e w6 ⟨⟨vs, rfl, os⟩, b6⟩
        go_wp2_with fail
        have ol6 := ol5.below b6
        have hat6 : At w6 gl 0 l := hatl.below b6 hglw
        have hA6 : Arg w6 (.slice (some ⟨gl, 0, none⟩) q c1) (l.take q) := arg_take hat6 (Nat.lt_of_lt_of_le hglw b6.size) (by rw [HN.out]; omega) (by rw [HN.out]; omega) hcml
        refine (implStarts _ (l.take q) _ hA6 (by rw [List.length_take]; omega)).mono ?_
        rintro e w7 ⟨⟨va, rfl, oa⟩, b7⟩
        have os7 := os.below b7
        have ol7 := ol6.below b7
        have hB7 := bstep (bstep hB5 b6) b7
        rw [HT.out] at oa
        rw [HC.out] at os7
        obtain ⟨m, hm⟩ : ∃ m, (starts (fn l) n).length = m := ⟨_, rfl⟩
        obtain ⟨cn, hcn⟩ : ∃ cn, (starts (fn l) q).length = cn := ⟨_, rfl⟩
        have hm80 : m ≤ 80 := by have := clus_len l; rw [HC.out, hm] at this; exact this
        rw [hm, hcn] at f2
        rw [hcn] at f1 f3 f4
        rcases os7.forms with ⟨_, hs0⟩ | ⟨g, cp, rfl, hg, hgw, hlc, hcm, hats⟩
        · exfalso; rw [hs0] at hm; simp at hm; omega
        · rw [hm] at hlc ⊢
          have F1 : Hid _ := f1
          have F3 : Hid _ := f3
          have F4 : Hid _ := f4
          have HM : Hid _ := hm
          have HCN : Hid _ := hcn
          clear f1 f3 f4 hm hcn os os7 ol6 ol5 hA6 hat6
          go_wp2_with fail
          go_loop [8, 9] (fun x i => ∃ c : Nat, c ≤ cn ∧ i = .int .i64 c ∧ x = .int .i64 c) (fun _ i => cn - (intOf i).toNat)
          case atStart => exact ⟨0, Nat.zero_le _, rfl, rfl⟩
          case round =>
            obtain ⟨c, hc, rfl, rfl⟩ := hrel
            have hcm2 : c < m := by omega
            have hcell : w7.cell? ⟨g, c, none⟩ = some (.int .i64 (fn (starts (fn l) n) c)) := by
              have := hats c (by rw [HM.out]; exact hcm2)
              rwa [Nat.zero_add] at this
            have hcmi : (c : Int) < (m : Int) := by omega
            by_cases hlt : c < cn
            · have hq4 := F4.out c hlt
              go_wp2_with fail
              go_round
              case rel => exact ⟨c + 1, by omega, by go_num, by go_num⟩
              case measure => simp only [intOf]; omega
            · have e : c = cn := by omega
              subst e
              rw [F3.out] at hcell
              have hccp : (c : Int) ≤ (cp : Int) := by omega
              have hne : ((c : Int) == (m : Int)) = false := by simp; omega
              go_wp2_with fail
              have hA7 : Arg w7 (.slice (some ⟨g, 0, none⟩) c cp) (starts (fn l) q) := by
                have h1 := arg_take (q := c) (cap := cp) hats hgw (by rw [HM.out]; omega) (by rw [HM.out]; omega) hcm
                rw [F1.out] at h1; exact h1
              refine (wcInts_yes _ _ (starts (fn l) q) _ oa.arg hA7 (by rw [HCN.out]; omega)).mono ?_
              rintro e w8 ⟨rfl, b8⟩
              have hcell8 : w8.cell? ⟨g, c, none⟩ = some (.int .i64 (q : Int)) := (b8.cell (p := ⟨g, c, none⟩) hgw).trans hcell
              go_wp2_with fail
              refine (implAt _ l n _ _ _ _ HN rfl (ol7.below b8).arg (by omega)).mono ?_
              rintro e w9 ⟨rfl, b9⟩
              rw [HQ.out]
              go_wp2_with fail
              go_ret
              exact ⟨rfl, bstep (bstep hB7 b8) b9⟩
    · have HA : Hid (atR l t = -1) := by
        show atR l t = -1
        cases hok : okF (fn l) l.length
        · exact atR_bad hok
        · exact atR_out (fun h2 => hin ⟨hok, by rw [← HN.out]; exact h2⟩)
      clear hin
      rw [HA.out]
      go_wp2_with fail
      refine (specAt _ l n _ _ _ _ HN rfl ol5.arg (by omega)).mono ?_
      rintro e w6 ⟨rfl, b6⟩
      rw [HA.out]
      go_wp2_with fail
      go_ret
      exact ⟨rfl, bstep hB5 b6⟩
end Go.Proofs.Ytfdmldbcblddlaa
