import Derived.Test.YtgojdlbidjnmmabGreatPk29
import Derived.Test.YtgojdlbidjnmmabGreatPk26
namespace Go.Proofs.YtgojdlbidjnmmabGreat
open Go.ChangeShapes Go.WideShapes Go.ChangeAt Go.RowKit Go.Deep
set_option linter.unusedSimpArgs false
set_option linter.unusedVariables false

set_option maxRecDepth 10000 in
set_option maxHeartbeats 8000000 in
theorem specSeen (v : Value) (l : List Int) (mt : Nat → Nat) (base f t : Int) (w : World) (a : Option Addr) (cap : Nat) (hva : v = .slice a l.length cap) (hv : Arg w v l) (hl : l.length ≤ 1048576) (hmt : Hid (MateFn (cl l) l.length mt)) :
    Calls Tryz.prog 4 #[v, .int .i64 base, .int .i64 f, .int .i64 t] w fun e w' => (∃ v', e = .returned v' ∧ OwnI w' w.heap.size v' (seenR l mt base f t)) ∧ Below w.heap.size w w' := by
  subst hva
  have hLN := specLine (.slice a l.length cap) l mt base f t w a cap rfl hv hl hmt
  have HLN : Hid _ := hLN
  have hOR := ordR_line (base := base) (f := f) (t := t) hmt.out
  have hok := lineLR_ok (base := base) (f := f) (t := t) hmt.out
  have hpt : ∀ k, k < (orderL (lineLR l mt base f t)).length → ∃ p : Nat, fn (orderL (lineLR l mt base f t)) k = (p : Int) ∧ p < (lineLR l mt base f t).length ∧ f.toNat + p < l.length ∧ 0 ≤ f ∧ 0 ≤ fn (lineLR l mt base f t) p := fun k hk => by
    obtain ⟨p, h1, h2, h3, h4⟩ := seen_at hk
    have h5 := ((orderL_ord (lineLR l mt base f t)).inn k hk).2.2
    rw [h1] at h5
    exact ⟨p, h1, h2, h3, h4, h5⟩
  unfold seenR
  have htk := fun k (hk : k < (orderL (lineLR l mt base f t)).length) => seenL_take (l := l) (f := f.toNat) hk
  have hsl := seenL_len l (lineLR l mt base f t) f.toNat
  have ho1 := ordR_len (lineLR l mt base f t)
  rw [hOR] at ho1
  obtain ⟨X, hX⟩ : ∃ X, lineLR l mt base f t = X := ⟨_, rfl⟩
  rw [hX] at HLN hOR hok hpt htk hsl ho1 ⊢
  obtain ⟨O, hO⟩ : ∃ O, orderL X = O := ⟨_, rfl⟩
  have HOO : Hid (orderL X = O) := hO
  rw [hO] at hOR hpt htk hsl ho1
  obtain ⟨fz, hfz⟩ : ∃ fz, f.toNat = fz := ⟨_, rfl⟩
  rw [hfz] at hpt htk hsl ⊢
  obtain ⟨S, hS⟩ : ∃ S, seenL l X fz = S := ⟨_, rfl⟩
  rw [hS] at htk hsl ⊢
  obtain ⟨n, hn⟩ : ∃ n, l.length = n := ⟨_, rfl⟩
  obtain ⟨nx, hnx⟩ : ∃ nx, X.length = nx := ⟨_, rfl⟩
  obtain ⟨N, hN⟩ : ∃ N, O.length = N := ⟨_, rfl⟩
  rw [hn] at hpt HLN hl ⊢
  rw [hnx] at hpt hok
  rw [hN] at hpt htk hsl ho1
  have HOR : Hid (ordR X = O) := hOR
  have HPT : Hid _ := hpt
  have HTK : Hid _ := htk
  have HSL : Hid (S.length = N) := hsl
  have HN : Hid (l.length = n) := hn
  have HNX : Hid (X.length = nx) := hnx
  have HNO : Hid (O.length = N) := hN
  have HFZ : Hid (f.toNat = fz) := hfz
  have HV : Hid (Arg w (.slice a n cap) l) := by rw [← hn]; exact hv
  have hnx80 := hok.1
  have H22 : Hid (∀ j, j < X.length → fn X j ≤ 22) := fun j hj => (hok.2 j (by rw [← hnx]; exact hj)).2
  have HX4 : Hid (X.length ≤ 4194304) := show X.length ≤ 4194304 by omega
  have HEMP : Hid (S.take 0 = []) := List.take_zero
  clear hLN hOR hok hpt htk hsl hX hO hfz hS hn hnx hN hv
  go_enter Tryz.func4, Tryz.ntmps4
  go_wp2_with fail
  refine Calls.mono HLN.out ?_
  rintro e w1 ⟨⟨v9, rfl, o9⟩, b1⟩
  go_wp2_with fail
  refine (specOrder_any v9 X _ o9.arg (by have := HX4.out; have := HNX.out; omega) H22).mono ?_
  rintro e w2 ⟨⟨v19, rfl, o19⟩, b2⟩
  rw [HOO.out] at o19
  have O9 : Hid (OwnI w2 w.heap.size v9 X) := o9.below b2
  have O19 : Hid (OwnI w2 w1.heap.size v19 O) := o19
  have HB2 : Hid (Below w.heap.size w w2) := bstep b1 b2
  have hsz2 := HB2.out.size
  obtain ⟨a19, c19, rfl⟩ : ∃ a19 c19, v19 = .slice a19 N c19 := by
    rcases o19.forms with ⟨rfl, e⟩ | ⟨g, c, rfl, _⟩
    · have := HNO.out; rw [e] at this; simp at this; subst this; exact ⟨_, _, rfl⟩
    · rw [HNO.out]; exact ⟨_, _, rfl⟩
  clear o9 o19 b1 b2
  have ho := own_empty w2 w2.heap.size 3 (Nat.le_refl _) rfl
  have HO0 : Hid _ := ho
  have HBE : Hid (Below w2.heap.size w2 (w2.alloc (.cells #[] 3))) := (Below.refl _ _).alloc (Nat.le_refl _) _
  clear ho
  go_wp2_with fail
  go_loopw [11, 12] (fun x10 x21 wr => ∃ (k : Nat) (vs : Value), x10 = vs ∧ x21 = .int .i64 k ∧ k ≤ N ∧ Hid (OwnI wr w2.heap.size vs (S.take k)) ∧ Hid (Below w2.heap.size w2 wr)) (fun _ x21 _ => N - (intOf x21).toNat)
  case atStart => exact ⟨0, _, rfl, rfl, Nat.zero_le _, by rw [HEMP.out]; exact HO0.out, HBE.out⟩
  case round =>
    obtain ⟨k, vs, e10, rfl, hk, hVS, hbx⟩ := hrel
    rename World => wx
    rw [e10]
    clear e10
    by_cases hkN : k < N
    · have hki : (k : Int) < (N : Int) := by omega
      obtain ⟨p, hp1, hp2, hp3, hf0, hp4⟩ := HPT.out k hkN
      have hfe : f = (fz : Int) := by have := HFZ.out; omega
      have htk := HTK.out k hkN
      rw [hp1] at htk
      simp only [Int.toNat_natCast] at htk
      rcases O19.out.forms with ⟨e, _⟩ | ⟨g19, c19', e, _, hg19, _, _, _⟩
      · simp only [Value.slice.injEq] at e; omega
      simp only [Value.slice.injEq] at e
      obtain ⟨rfl, -, rfl⟩ := e
      obtain ⟨g9, c9, e9, _⟩ := OwnI.form1 O9.out (fun e => by have := HNX.out; rw [e] at this; simp at this; omega)
      rw [HNX.out] at e9
      subst e9
      obtain ⟨bl, ol, e1, hbl, hat⟩ : ∃ bl ol, a = some ⟨bl, ol, none⟩ ∧ bl < w.heap.size ∧ At w bl ol l := by
        rcases HV.out with ⟨a0, cap0, e1, e2⟩ | ⟨b, off, cap', e1, hb, hlc, hcm, hat⟩
        · have := HN.out; rw [e2] at this; simp at this; omega
        · simp only [Value.slice.injEq] at e1
          exact ⟨b, off, e1.1, hb, hat⟩
      subst e1
      have x1 := (O19.out.below hbx.out).cellN k (by have := HNO.out; omega)
      have x2 := (O9.out.below hbx.out).cellN p (by have := HNX.out; omega)
      have x3 := (hat.below (HB2.out.trans (hbx.out.mono hsz2)) hbl) (fz + p) (by have := HN.out; omega)
      rw [hp1] at x1
      obtain ⟨r, hr⟩ : ∃ r, fn l (fz + p) = r := ⟨_, rfl⟩
      obtain ⟨lv, hlv⟩ : ∃ lv, fn X p = lv := ⟨_, rfl⟩
      rw [hr] at x3 htk
      rw [hlv] at x2 htk hp4
      obtain ⟨xv, hxv⟩ : ∃ xv, seenF r lv = xv := ⟨_, rfl⟩
      rw [hxv] at htk
      have HTK1 : Hid (S.take (k + 1) = S.take k ++ [xv]) := htk
      obtain ⟨q, hq⟩ : ∃ q, fz + p = q := ⟨_, rfl⟩
      rw [hq] at x3
      have hqi : (fz : Int) + (p : Int) = (q : Int) := by omega
      have hqn : (q : Int) < (n : Int) := by omega
      have hpi : (p : Int) < (nx : Int) := by omega
      have hwp : IntKind.i64.wrap (q : Int) = (q : Int) := by rw [IntKind.wrap_i64]; omega
      have hlcs : (S.take k).length + 1 ≤ 1048576 := by rw [List.length_take, HSL.out]; omega
      obtain ⟨lc, hlc⟩ : ∃ lc, S.take k = lc := ⟨_, rfl⟩
      rw [hlc] at hVS HTK1 hlcs
      have hsx := hbx.out.size
      have hlc2 : lc.length ≤ 1073741824 := by omega
      have htm : Int.tmod lv 2 = lv % 2 := Int.tmod_eq_emod_of_nonneg hp4
      clear htk hp1 hat hr hlv hlc hq
      subst hfe
      rcases Int.emod_two_eq lv with hm | hm
      · have hxr : xv = r := by rw [← hxv]; unfold seenF; rw [if_neg (by omega)]
        subst hxr
        rw [hm] at htm
        clear hm hxv
        go_wp2_with (at_builtin; refine own_append (.tmp 48) (.tmp 50) hVS.out hlc2 hsx rfl rfl rfl rfl ?_; intro v7 w7 o7 g7; have O7 : Hid (OwnI w7 w2.heap.size v7 (lc ++ [xv])) := o7; have HB7 : Hid (Below w2.heap.size w2 w7) := Below.grown hbx.out g7 hsx (fun b hb => (hVS.out.lt b hb).1); clear o7 g7)
        go_roundw
        case rel => exact ⟨k + 1, _, rfl, by go_num, by omega, by rw [HTK1.out]; exact O7.out, HB7.out⟩
        case measure => simp only [intOf]; omega
      · have hxr : mirror r = xv := by rw [← hxv]; unfold seenF; rw [if_pos hm]
        have HXR : Hid _ := hxr
        rw [hm] at htm
        clear hm hxv hxr
        go_wp2_with (first | (go_at_call 12; refine (specMirror _ _).mono ?_; rintro e w6 ⟨rfl, b6⟩; rw [HXR.out]; have B6 : Hid (Below w2.heap.size w2 w6) := bstep hbx.out b6; have O6 : Hid (OwnI w6 w2.heap.size vs lc) := hVS.out.below b6; have hs6 := B6.out.size; clear b6) | (at_builtin; refine own_append (.tmp 48) (.tmp 50) O6.out hlc2 hs6 rfl rfl rfl rfl ?_; intro v7 w7 o7 g7; have O7 : Hid (OwnI w7 w2.heap.size v7 (lc ++ [xv])) := o7; have HB7 : Hid (Below w2.heap.size w2 w7) := Below.grown B6.out g7 hs6 (fun b hb => (O6.out.lt b hb).1); clear o7 g7))
        go_roundw
        case rel => exact ⟨k + 1, _, rfl, by go_num, by omega, by rw [HTK1.out]; exact O7.out, HB7.out⟩
        case measure => simp only [intOf]; omega
    · have e : k = N := by omega
      subst e
      rw [List.take_of_length_le (by rw [HSL.out]; exact Nat.le_refl _)] at hVS
      go_wp2_with fail
      go_ret
      exact ⟨⟨_, rfl, hVS.out.mono hsz2⟩, HB2.out.trans (hbx.out.mono hsz2)⟩
end Go.Proofs.YtgojdlbidjnmmabGreat
namespace Go.Proofs.YtgojdlbidjnmmabGreat
theorem seenR_le {l : List Int} {mt : Nat → Nat} {base f t : Int} (hmt : MateFn (cl l) l.length mt) : (seenR l mt base f t).length ≤ 80 := by
  have h1 := ordR_line (base := base) (f := f) (t := t) hmt
  have h2 := ordR_len (lineLR l mt base f t)
  unfold seenR
  rw [seenL_len, ← h1]; exact h2
end Go.Proofs.YtgojdlbidjnmmabGreat
