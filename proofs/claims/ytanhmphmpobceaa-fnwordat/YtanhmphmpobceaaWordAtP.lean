import Derived.Test.YtanhmphmpobceaaWordF
import Derived.Test.YtanhmphmpobceaaDrawWs
import Derived.Test.YtanhmphmpobceaaWcIn
namespace Go.Proofs.Ytanhmphmpobceaa
open Go.ChangeShapes Go.WideShapes Go.ChangeAt Go.RowKit
set_option linter.unusedSimpArgs false

theorem Rd.keepB {w w' : World} {R p : Nat} (h : Rd w R p) (hb : Below w.heap.size w w') : Rd w' R p :=
  h.beside (row := none) ⟨hb.os, hb.tape, hb.output, hb.size, fun k hk _ => hb.block k hk⟩ (fun k hk => by cases hk)
theorem OwnI.slcW {w : World} {B : Nat} {v : Value} {l : List Int} (h : OwnI w B v l) : ∃ a n cap, v = .slice a n cap ∧ l.length = n := by
  rcases h.forms with ⟨rfl, rfl⟩ | ⟨g, cap, rfl, _⟩
  · exact ⟨_, _, _, rfl, rfl⟩
  · exact ⟨_, _, _, rfl, rfl⟩

set_option maxHeartbeats 1000000 in
theorem drawWA (a : Option Addr) (len cap : Nat) (w : World) (h : Bytes w a len cap) :
    Calls Try.prog 15 #[.slice a len cap] w fun e w' => (∃ v l x, e = .returned (.tuple #[v, .int .i64 x]) ∧ OwnI w' w.heap.size v l ∧ l.length ≤ 81) ∧ Below w.heap.size w w' := by
  go_enter Try.func15, Try.ntmps15
  go_wp2_with fail
  refine (open_any a len cap w h).mono ?_
  rintro e w1 ⟨rfl, hr, hb⟩
  have hl1 := hr.lt
  go_wp2_with fail
  refine (drawWS a len cap _ (h.below hb)).mono ?_
  rintro e w2 ⟨⟨v, l, rfl, hown, hlen⟩, hb2⟩
  obtain ⟨g, n, cp, rfl, hn⟩ := hown.slcW
  have hs := hb.size
  have HN : Hid (l.length = n) := hn
  have hn2 : n ≤ 81 := by omega
  clear hn
  go_wp2_with fail
  refine (pick_went _ 0 _ _ (hr.keepB hb2) (by omega) (by omega) (by omega)).mono ?_
  rintro e w3 ⟨⟨k, rfl, hk⟩, hW, hsz⟩
  go_wp2_with fail
  go_ret2
  exact ⟨⟨_, l, _, rfl, (hown.went hW (by omega)).mono hs, hlen⟩, (hb.trans (hb2.mono hs)).trans (hW.below (Nat.le_refl _) (by have := hb2.size; omega))⟩

set_option maxHeartbeats 8000000 in
theorem wordAtLaw (a : Option Addr) (len cap : Nat) (w : World) (h : Bytes w a len cap) :
    Calls Try.prog 4 #[.slice a len cap] w fun e w' => e = .returned (.bool true) ∧ Below w.heap.size w w' := by
  by_cases hbig : 1048576 < len
  · have hbig2 : (1048576 : Int) < (len : Int) := by omega
    go_enter Try.func4, Try.ntmps4
    go_wp2_with fail
    go_ret
    exact ⟨rfl, Below.refl _ _⟩
  · have hbig2 : (len : Int) ≤ 1048576 := by omega
    go_enter Try.func4, Try.ntmps4
    go_wp2_with fail
    refine (drawWA a len cap w h).mono ?_
    rintro e w1 ⟨⟨v, l, x, rfl, ol, hlen⟩, b1⟩
    obtain ⟨g, n, cp, rfl, hn⟩ := ol.slcW
    have HN : Hid (l.length = n) := hn
    have hn2 : n ≤ 4194304 := by omega
    clear hn
    go_wp2_with fail
    refine (implWordAt _ l n _ _ _ _ HN rfl ol.arg hn2).mono ?_
    rintro e w2 ⟨⟨f, t, rfl, hA⟩, b2⟩
    go_wp2_with fail
    refine (specWordAt _ l n _ _ _ _ HN rfl (ol.below b2).arg hn2).mono ?_
    rintro e w3 ⟨⟨f', t', rfl, hA'⟩, b3⟩
    obtain ⟨rfl, rfl⟩ := hA.one hA'
    clear hA'
    have o3 := (ol.below b2).below b3
    by_cases hc : okF (fn l) l.length = true ∧ 0 ≤ x ∧ x < (l.length : Int)
    · obtain ⟨i, j, rfl, rfl, hs⟩ : ∃ i j : Nat, f = (i : Int) ∧ t = (j : Int) ∧ WSpan (fn l) l.length x.toNat i j := by
        unfold WAns at hA; rw [if_pos hc] at hA; exact hA
      obtain ⟨p, rfl⟩ : ∃ p : Nat, x = (p : Int) := ⟨x.toNat, by omega⟩
      rw [Int.toNat_natCast] at hs
      have h1 := hs.fp
      have h2 := hs.pt
      have h3 := hs.tn
      have ht0 : ((j : Int) == 0) = false := by simp; omega
      have HI : Hid (WAns l (i : Int) (i : Int) (j : Int)) := WAns.yes hc.1 (by omega) ⟨Nat.le_refl _, hs.fb, fun k hk hk2 => by omega, by omega, h3, fun k hk hk2 => by
        rcases Nat.lt_or_ge p k with q | q
        · exact hs.to k q hk2
        · exact hs.fo k hk q, hs.tb⟩
      have HJ : Hid (WAns l ((j : Int) - 1) (i : Int) (j : Int)) := by
        show WAns l ((j : Int) - 1) (i : Int) (j : Int)
        have e : ((j : Int) - 1) = ((j - 1 : Nat) : Int) := by omega
        rw [e]
        exact WAns.yes hc.1 (by omega) ⟨by omega, hs.fb, fun k hk hk2 => by
          rcases Nat.lt_or_ge p k with q | q
          · exact hs.to k q (by omega)
          · exact hs.fo k hk q, by omega, h3, fun k hk hk2 => by omega, hs.tb⟩
      rw [HN.out] at h3
      clear hA hc hs
      go_wp2_with fail
      refine (implWordAt _ l n _ _ _ _ HN rfl o3.arg hn2).mono ?_
      rintro e w4 ⟨⟨f4, t4, rfl, hA4⟩, b4⟩
      obtain ⟨rfl, rfl⟩ := hA4.one HI.out
      clear hA4
      go_wp2_with fail
      refine (implWordAt _ l n _ _ _ _ HN rfl (o3.below b4).arg hn2).mono ?_
      rintro e w5 ⟨⟨f5, t5, rfl, hA5⟩, b5⟩
      obtain ⟨rfl, rfl⟩ := hA5.one HJ.out
      clear hA5
      go_wp2_with fail
      refine (wcIn_b _ _ _ _ true (by show decide _ = true; simp; omega)).mono ?_
      rintro e w6 ⟨rfl, rfl⟩
      go_wp2_with fail
      go_ret
      exact ⟨rfl, bstep (bstep (bstep (bstep b1 b2) b3) b4) b5⟩
    · obtain ⟨rfl, rfl⟩ : f = 0 ∧ t = 0 := by unfold WAns at hA; rw [if_neg hc] at hA; exact hA
      clear hA hc
      go_wp2_with fail
      go_ret
      exact ⟨rfl, bstep (bstep b1 b2) b3⟩
end Go.Proofs.Ytanhmphmpobceaa
