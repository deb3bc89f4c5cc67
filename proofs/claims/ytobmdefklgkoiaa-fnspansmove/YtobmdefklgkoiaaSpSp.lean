import Derived.Test.YtobmdefklgkoiaaSpMove
import Derived.Test.YtobmdefklgkoiaaLoRow
import Derived.Test.YtobmdefklgkoiaaSpanAtI
import Derived.Test.YtobmdefklgkoiaaSpanRow
import Derived.Test.YtobmdefklgkoiaaStepS
import Derived.Test.YtobmdefklgkoiaaTop
import Derived.Deep.QuietTactic
import Derived.BigQuiet
import Derived.BigRegion
namespace Go.Proofs.Ytobmdefklgkoiaa
open Go.ChangeShapes Go.WideShapes Go.ChangeAt Go.RowKit
set_option linter.unusedSimpArgs false
set_option linter.unusedVariables false

/-- The numbers of looks, one behind the other. -/
def flatP : List (Int × Int) → List Int
  | [] => []
  | (s, m) :: r => s :: m :: flatP r
theorem flatP_app (x y : List (Int × Int)) : flatP (x ++ y) = flatP x ++ flatP y := by
  induction x with
  | nil => rfl
  | cons a r ih => obtain ⟨s, m⟩ := a; simp only [List.cons_append, flatP, ih]
theorem flatP_len (x : List (Int × Int)) : (flatP x).length = x.length * 2 := by
  induction x with
  | nil => rfl
  | cons a r ih => obtain ⟨s, m⟩ := a; simp only [flatP, List.length_cons, ih]; omega
theorem fn_flatP : ∀ (x : List (Int × Int)) (i : Nat) (h : i < x.length), fn (flatP x) (i * 2) = x[i].1 ∧ fn (flatP x) (i * 2 + 1) = x[i].2
  | [], i, h => by simp at h
  | (s, m) :: r, 0, h => ⟨rfl, rfl⟩
  | (s, m) :: r, i + 1, h => by
    have := fn_flatP r i (by simpa using h)
    rw [show (i + 1) * 2 = i * 2 + 1 + 1 by omega]
    simpa [flatP, fn] using this
theorem fnP_some {x : List (Int × Int)} {i : Nat} {a : Int × Int} (h : x[i]? = some a) : i < x.length ∧ fn (flatP x) (i * 2) = a.1 ∧ fn (flatP x) (i * 2 + 1) = a.2 := by
  obtain ⟨hi, e⟩ := List.getElem?_eq_some_iff.1 h
  have := fn_flatP x i hi
  rw [e] at this
  exact ⟨hi, this⟩
theorem own_emptyT (w : World) (B : Nat) (T : TypeId) (h : B ≤ w.heap.size) (hT : T = 32) : OwnS (w.alloc (.cells #[] T)) B (.slice (some ⟨w.heap.size, 0, none⟩) 0 0) 0 [] := by
  subst hT
  exact World.ownsRow_made w #[] 0 h (by unfold maxLen; omega) (by simp)
/-- The same world but for its draws. -/
def DrN (a b : World) : Prop := b.heap = a.heap ∧ b.os = a.os ∧ b.tape = a.tape ∧ b.output = a.output
theorem DrN.below {a b : World} (h : DrN a b) : Below a.heap.size a b := ⟨h.2.1, h.2.2.1, h.2.2.2, by rw [h.1]; exact Nat.le_refl _, fun _ _ => by rw [h.1]⟩
theorem looksS_succ (z : Nat → Int) (n k : Nat) : looksS z n (k + 1) = looksS z n k ++ [lookAt z n (k : Int)] := by
  simp [looksS, List.range_succ]
theorem OwnK.emp (w : World) (B : Nat) (h : B ≤ w.heap.size) : OwnK (w.alloc (.cells #[] 74)) B (.slice (some ⟨w.heap.size, 0, none⟩) 0 0) 0 [] :=
  World.ownsRow_made w #[] 0 h (by unfold maxLen; omega) (by simp)

set_option maxHeartbeats 2000000 in
theorem specLooks (v : Value) (n : Nat) (l : List Int) (c : Nat) (w : World) (hv : ArgS w v n l) (hbig : n ≤ 12) (hc : c ≤ 80) (hen : Hid (endsOk (fn l) n)) :
    Calls Try.prog 36 #[v, .int .i64 (c : Int)] w fun e w' => ∃ v', e = .returned v' ∧ OwnK w' w.heap.size v' c (flatP (looksS (fn l) n c)) ∧ Below w.heap.size w w' ∧ ∃ g cap, v' = .slice (some ⟨g, 0, none⟩) c cap := by
  have HV : Hid (∀ w', Below w.heap.size w w' → ArgS w' v n l) := fun w' b => hv.below b
  clear hv
  go_enter Try.func36, Try.ntmps36
  go_wp2_with fail
  go_loopw [5, 6] (fun q i wr => ∃ (k : Nat), k ≤ c ∧ i = .int .i64 (k : Int) ∧ OwnK wr w.heap.size q k (flatP (looksS (fn l) n k)) ∧ Below w.heap.size w wr ∧ ∃ g cap, q = .slice (some ⟨g, 0, none⟩) k cap) (fun _ i _ => c - (intOf i).toNat)
  case atStart => exact ⟨0, Nat.zero_le _, rfl, OwnK.emp w _ (Nat.le_refl _), below_new w _, _, _, rfl⟩
  case round =>
    obtain ⟨k, hk, rfl, hown, hbel, hform⟩ := hrel
    by_cases hlt : k < c
    · have hki : (k : Int) < (c : Int) := by omega
      obtain ⟨r, hr⟩ : ∃ r, lookAt (fn l) n (k : Int) = r := ⟨_, rfl⟩
      have HR : Hid _ := hr
      clear hr
      go_wp2_with fail
      refine (specLookAt v n l (k : Int) _ (HV.out _ hbel) (by omega) hen r HR).mono ?_
      rintro e w1 ⟨rfl, b1⟩
      have hs1 := (bstep hbel b1).size
      go_wp2_with (at_builtin; refine own_appendLo (.tmp 21) (.tmp 25) (OwnK.below hown b1) (by omega) hs1 rfl rfl rfl _ rfl (by simp) ?_; intro v9 w9 hown9 hgr9)
      have B1 := bstep hbel b1
      exact ⟨⟨k + 1, hlt, by simp, by rw [looksS_succ, flatP_app, HR.out]; exact hown9, B1.grown hgr9 B1.size (fun q hq => ((OwnK.below hown b1).lt q hq).1), hown9.form1⟩, by simp only [intOf]; omega⟩
    · have e : k = c := by omega
      subst e
      go_wp2_with fail
      go_ret
      exact ⟨_, rfl, hown, hbel, hform⟩

theorem flatS_len (b : Nat) (R : Runs) : (spR b R).length = (spQ b R).length * 4 := by rw [← flat_sp, flat_len]
theorem spQ_snoc (P : Runs) (s m : Int) (n : Nat) (h : ¬ (s = 10 ∧ m = 0)) : (spQ 0 (P ++ [((s, m), n)])).length = (spQ 0 P).length + 1 ∧ spR 0 (P ++ [((s, m), n)]) = spR 0 P ++ [(cntR P : Int), ((cntR P + n : Nat) : Int), s, m] := by
  have e : ∀ b, spQ b (P ++ [((s, m), n)]) = spQ b P ++ [(b + cntR P, b + cntR P + n, s, m)] := by
    induction P with
    | nil => intro b; simp [spQ, cntR, h]
    | cons y r ih =>
      obtain ⟨⟨c, d⟩, k⟩ := y
      intro b
      simp only [List.cons_append, spQ, cntR, ih, List.append_assoc]
      rw [show b + k + cntR r = b + (k + cntR r) by omega]
  refine ⟨by rw [e]; simp, ?_⟩
  rw [← flat_sp, ← flat_sp, e, flat_app, Nat.zero_add]
  rfl
theorem spQ_base (P : Runs) (n : Nat) : spQ 0 (P ++ [((10, 0), n)]) = spQ 0 P ∧ spR 0 (P ++ [((10, 0), n)]) = spR 0 P := by
  have e : ∀ b, spQ b (P ++ [((10, 0), n)]) = spQ b P := by
    induction P with
    | nil => intro b; simp [spQ]
    | cons y r ih =>
      obtain ⟨⟨c, d⟩, k⟩ := y
      intro b
      simp only [List.cons_append, spQ, ih]
  refine ⟨e 0, ?_⟩
  rw [← flat_sp, ← flat_sp, e]
theorem spQ_short (b : Nat) (R : Runs) : (spQ b R).length ≤ R.length := by
  induction R generalizing b with
  | nil => exact Nat.le_refl _
  | cons x r ih =>
    obtain ⟨⟨s, m⟩, n⟩ := x
    have := ih (b + n)
    simp only [spQ, List.length_append, List.length_cons]
    split <;> simp <;> omega
theorem norm_short {R : Runs} (h : normR R) : R.length ≤ cntR R := by
  induction R with
  | nil => exact Nat.zero_le _
  | cons x r ih =>
    obtain ⟨a, n⟩ := x
    obtain ⟨h1, _, h3⟩ := h
    have := ih h3
    simp only [List.length_cons, cntR]
    omega

set_option maxHeartbeats 4000000 in
theorem specSpans (v : Value) (x : List (Int × Int)) (B : Nat) (w : World) (hv : OwnK w B v x.length (flatP x)) (hc : x.length ≤ 200) :
    Calls Try.prog 35 #[v] w fun e w' => ∃ v', e = .returned v' ∧ OwnS w' w.heap.size v' (spQ 0 (rleR x)).length (spR 0 (rleR x)) ∧ Below w.heap.size w w' := by
  obtain ⟨hnorm, hexp⟩ := rle_is x
  obtain ⟨R, hR⟩ : ∃ R, rleR x = R := ⟨_, rfl⟩
  rw [hR] at hnorm hexp ⊢
  obtain ⟨N, hN⟩ : ∃ N, x.length = N := ⟨_, rfl⟩
  have hcN : cntR R = N := by rw [← cnt_len, hexp, hN]
  rw [hN] at hv hc
  obtain ⟨a, cap, rfl, hat⟩ : ∃ a cap, v = .slice a N cap ∧ ∀ j, j < N * 2 → ∃ g, a = some ⟨g, 0, none⟩ ∧ g < w.heap.size ∧ w.cell? ⟨g, j, none⟩ = some (.int .i64 (fn (flatP x) j)) := by
    rcases hv.forms with ⟨rfl, e⟩ | ⟨g, cap, rfl, _, hg, _⟩
    · subst e; exact ⟨none, 0, rfl, fun j hj => by omega⟩
    · exact ⟨_, cap, rfl, fun j hj => ⟨g, rfl, hg, hv.cell j hj⟩⟩
  have HAT : Hid _ := hat
  have HNO : Hid _ := hnorm
  have HEX : Hid _ := hexp
  have HCN : Hid _ := hcN
  have HN : Hid _ := hN
  clear hat hnorm hexp hcN hv hR hN
  go_enter Try.func35, Try.ntmps35
  go_wp2_with fail
  go_loopw [3, 4] (fun q i wr => ∃ (P Q : Runs), Hid (R = P ++ Q) ∧ i = .int .i64 (cntR P : Int) ∧ OwnS wr w.heap.size q (spQ 0 P).length (spR 0 P) ∧ Below w.heap.size w wr) (fun _ i _ => N - (intOf i).toNat)
  case atStart => exact ⟨[], R, rfl, rfl, own_emptyT w _ _ (Nat.le_refl _) rfl, below_new w _⟩
  case round =>
    obtain ⟨P, Q, hx, rfl, hown, hbel⟩ := hrel
    cases Q with
    | nil =>
      have e : cntR P = N := by rw [← HCN.out, hx.out, List.append_nil]
      have hi : ¬ ((cntR P : Int) < (N : Int)) := by omega
      have eR : R = P := by rw [hx.out, List.append_nil]
      have HR : Hid _ := eR
      clear e eR
      go_wp2_with fail
      go_ret
      refine ⟨_, rfl, ?_, hbel⟩
      rw [HR.out]
      exact hown
    | cons y r =>
      obtain ⟨⟨s, m⟩, k⟩ := y
      have hno := norm_tail (show normR (P ++ ((s, m), k) :: r) by rw [← hx.out]; exact HNO.out)
      have hk0 := hno.1
      have hcn : cntR P + k + cntR r = N := by rw [← HCN.out, hx.out, cnt_app]; simp [cntR]; omega
      have hi : (cntR P : Int) < (N : Int) := by omega
      have hin : ∀ j, j < k → x[cntR P + j]? = some (s, m) := fun j hj => by rw [← HEX.out, hx.out]; exact run_in hj
      have hout : (r = [] ∧ N = cntR P + k) ∨ ∃ b, b ≠ (s, m) ∧ x[cntR P + k]? = some b := by
        have := run_out (show normR (P ++ ((s, m), k) :: r) by rw [← hx.out]; exact HNO.out)
        rw [← hx.out, HEX.out, HN.out] at this
        exact this
      have HIN : Hid _ := hin
      have HOUT : Hid _ := hout
      have HOW : Hid _ := hown
      have HBE : Hid _ := hbel
      obtain ⟨g, rfl, hg, _⟩ := HAT.out (cntR P * 2) (by omega)
      have HCE : Hid (∀ (u : World), Below w.heap.size w u → ∀ i (a : Int × Int), x[i]? = some a → u.cell? ⟨g, i * 2, none⟩ = some (.int .i64 a.1) ∧ u.cell? ⟨g, i * 2 + 1, none⟩ = some (.int .i64 a.2)) := fun u hu i a ha => by
        obtain ⟨h1, h2, h3⟩ := fnP_some ha
        rw [HN.out] at h1
        obtain ⟨g0, e0, _, h4⟩ := HAT.out (i * 2) (by omega)
        obtain ⟨g1, e1, _, h5⟩ := HAT.out (i * 2 + 1) (by omega)
        simp at e0 e1
        subst e0
        rw [h2] at h4
        rw [← e1, h3] at h5
        exact ⟨(hu.cell (p := ⟨g, i * 2, none⟩) hg).trans h4, (hu.cell (p := ⟨g, i * 2 + 1, none⟩) hg).trans h5⟩
      obtain ⟨I, hI⟩ : ∃ I, cntR P = I := ⟨_, rfl⟩
      rw [hI] at hi hcn ⊢
      have HI : Hid _ := hI
      have HNO2 : Hid _ := hno
      clear hin hout hown hbel hI hno
      go_wp2_with fail
      have HG : Hid (∀ (q : Value) (u : World), OwnS u w.heap.size q (spQ 0 (P ++ [((s, m), k)])).length (spR 0 (P ++ [((s, m), k)])) → Below w.heap.size w u → ∃ (P1 Q1 : Runs), Hid (R = P1 ++ Q1) ∧ Value.int .i64 ((I + k : Nat) : Int) = .int .i64 (cntR P1 : Int) ∧ OwnS u w.heap.size q (spQ 0 P1).length (spR 0 P1) ∧ Below w.heap.size w u) := fun q u h1 h2 =>
        ⟨P ++ [((s, m), k)], r, by show _ = _; rw [hx.out]; simp, by rw [cnt_app, ← HI.out]; simp [cntR], h1, h2⟩
      have HK0 : Hid (0 < k) := hk0
      have HM : Hid (N - (I + k) < N - I) := by show _ < _; omega
      have HL : Hid ((spQ 0 P).length ≤ 1048576) := by
        show _ ≤ _
        have h1 := spQ_short 0 P
        have h2 : normR (P ++ ((s, m), k) :: r) := by rw [← hx.out]; exact HNO.out
        have h3 := norm_short h2
        rw [← hx.out, HCN.out, hx.out, List.length_append] at h3
        omega
      go_loopw [5] (fun i wx => ∃ (j : Nat), 1 ≤ j ∧ j ≤ k ∧ i = .int .i64 ((I : Int) + (j : Int)) ∧ Hid (DrN wr wx)) (fun i _ => N - (intOf i).toNat)
      case atStart => exact ⟨1, Nat.le_refl _, hk0, by simp, ⟨rfl, rfl, rfl, rfl⟩⟩
      case round =>
        rename World => wx
        obtain ⟨j, hj1, hjk, rfl, hd⟩ := hrel
        obtain ⟨K, hK⟩ : ∃ K : Nat, I + j = K := ⟨_, rfl⟩
        have hKi : (I : Int) + (j : Int) = (K : Int) := by omega
        rw [hKi]
        have hbx : Below w.heap.size w wx := HBE.out.trans (hd.out.below.mono HBE.out.size)
        obtain ⟨c0, c1⟩ := HCE.out wx hbx I (s, m) (by rw [← HI.out]; exact HIN.out 0 hk0)
        simp only at c0 c1
        by_cases hjl : j < k
        · obtain ⟨d0, d1⟩ := HCE.out wx hbx K (s, m) (by rw [← hK, ← HI.out]; exact HIN.out j hjl)
          simp only at d0 d1
          have hKN : (K : Int) < (N : Int) := by omega
          have hKNd : decide (K < N) = true := by simp; omega
          have HST : Hid (1 ≤ j + 1 ∧ j + 1 ≤ k ∧ (K : Int) + 1 = (I : Int) + ((j + 1 : Nat) : Int) ∧ N - (K + 1) < N - K) := ⟨by omega, hjl, by omega, by omega⟩
          clear hbx hK hKi hjk hj1 hcn
          go_wp2_with fail
          go_quiet (fail)
          go_wp2_with fail
          exact ⟨⟨j + 1, HST.out.1, HST.out.2.1, by rw [HST.out.2.2.1], hd.out⟩, by simp only [intOf]; have := HST.out.2.2.2; omega⟩
        · have hje : j = k := by omega
          have hKk : I + k = K := by omega
          have HKK : Hid ((K : Int) = ((I + k : Nat) : Int) ∧ I + k = K) := by refine ⟨?_, ?_⟩ <;> omega
          rcases HOUT.out with ⟨_, hNe⟩ | ⟨⟨b1, b2⟩, hne, hxb⟩
          · have hKN : ¬ (K : Int) < (N : Int) := by rw [HI.out] at hNe; omega
            have hKNd : decide (K < N) = false := by simp; omega
            clear hbx hK hKi hjk hj1 hcn hNe hje hKk
            have HBX : Hid (∀ d, Below w.heap.size w (wx.drewN d)) := fun d => HBE.out.trans ((DrN.below (b := wx.drewN d) hd.out).mono HBE.out.size)
            have HOX : Hid (∀ d, OwnS (wx.drewN d) w.heap.size u3 (spQ 0 P).length (spR 0 P)) := fun d => OwnS.kept (w' := wx.drewN d) HOW.out (fun q _ => by show wx.heap[q]? = _; rw [hd.out.1])
            have hszx : w.heap.size ≤ wx.heap.size := (HBX.out 0).size
            by_cases hsm : s = 10 ∧ m = 0
            · obtain ⟨rfl, rfl⟩ := hsm
              go_wp2_with fail
              go_quiet (fail)
              go_wp2_with fail
              rw [HKK.out.1]
              exact ⟨HG.out _ _ (by rw [(spQ_base P k).1, (spQ_base P k).2]; exact HOX.out _) (HBX.out _), by simp only [intOf]; have := HM.out; have := HKK.out.2; omega⟩
            · obtain ⟨q1, q2⟩ := spQ_snoc P s m k hsm
              have HQ1 : Hid _ := q1
              rw [HI.out, HKK.out.2] at q2
              have HQ2 : Hid _ := q2
              clear q1 q2
              by_cases hs : s = 10
              · subst hs
                have hm : ¬ m = 0 := fun e => hsm ⟨rfl, e⟩
                clear hsm
                go_wp2_with fail
                go_quiet (fail)
                go_wp2_with fail
                obtain ⟨W5, hW5⟩ : ∃ W5, wx.drewN nq = W5 := ⟨_, rfl⟩
                have HB5 : Hid (Below w.heap.size w W5) := by rw [← hW5]; exact HBX.out _
                have HO5 : Hid (OwnS W5 w.heap.size u3 (spQ 0 P).length (spR 0 P)) := by rw [← hW5]; exact HOX.out _
                rw [hW5]
                clear hW5
                obtain ⟨z0, z1⟩ := HCE.out W5 HB5.out I (10, m) (by rw [← HI.out]; exact HIN.out 0 HK0.out)
                simp only at z0 z1
                have hsz5 : w.heap.size ≤ W5.heap.size := HB5.out.size
                go_region_law (first
                  | (refine step_ownS (x0 := (I : Int)) (x1 := (K : Int)) (x2 := 10) (x3 := m) (ad := W5.heap.size) (.tmp 44) (.tmp 58) (OwnS.below HO5.out (by first | exact ((Below.refl _ _).alloc (Nat.le_refl _) _).drew | exact ((Below.refl _ _).drew.alloc (Nat.le_refl _) _))) HL.out ?_ ?_ ?_ ?_ ?_ rfl rfl rfl rfl ?_; (simp; omega); simp; simp; simp; simp; intro v9 w9 hown9 hgr9))
                all_goals (go_wp2_with fail)
                all_goals rw [HKK.out.1]
                all_goals exact ⟨HG.out _ _ (by rw [HQ1.out, HQ2.out]; exact hown9) (Below.grown (HB5.out.alloc HB5.out.size _).drew hgr9 (by simp; omega) (fun q hq => (HO5.out.lt q hq).1)), by simp only [intOf]; have := HM.out; have := HKK.out.2; omega⟩
              · clear hsm
                go_wp2_with fail
                go_quiet (fail)
                go_wp2_with fail
                obtain ⟨W5, hW5⟩ : ∃ W5, wx.drewN nq = W5 := ⟨_, rfl⟩
                have HB5 : Hid (Below w.heap.size w W5) := by rw [← hW5]; exact HBX.out _
                have HO5 : Hid (OwnS W5 w.heap.size u3 (spQ 0 P).length (spR 0 P)) := by rw [← hW5]; exact HOX.out _
                rw [hW5]
                clear hW5
                obtain ⟨z0, z1⟩ := HCE.out W5 HB5.out I (s, m) (by rw [← HI.out]; exact HIN.out 0 HK0.out)
                simp only at z0 z1
                have hsz5 : w.heap.size ≤ W5.heap.size := HB5.out.size
                go_region_law (first
                  | (refine step_ownS (x0 := (I : Int)) (x1 := (K : Int)) (x2 := s) (x3 := m) (ad := W5.heap.size) (.tmp 44) (.tmp 58) (OwnS.below HO5.out (by first | exact ((Below.refl _ _).alloc (Nat.le_refl _) _).drew | exact ((Below.refl _ _).drew.alloc (Nat.le_refl _) _))) HL.out ?_ ?_ ?_ ?_ ?_ rfl rfl rfl rfl ?_; (simp; omega); simp; simp; simp; simp; intro v9 w9 hown9 hgr9))
                all_goals (go_wp2_with fail)
                all_goals rw [HKK.out.1]
                all_goals exact ⟨HG.out _ _ (by rw [HQ1.out, HQ2.out]; exact hown9) (Below.grown (HB5.out.alloc HB5.out.size _).drew hgr9 (by simp; omega) (fun q hq => (HO5.out.lt q hq).1)), by simp only [intOf]; have := HM.out; have := HKK.out.2; omega⟩
          · rw [HI.out, hKk] at hxb
            obtain ⟨d0, d1⟩ := HCE.out wx hbx K (b1, b2) hxb
            simp only at d0 d1
            have hKN : (K : Int) < (N : Int) := by have := (fnP_some hxb).1; rw [HN.out] at this; omega
            have hKNd : decide (K < N) = true := by simp; omega
            by_cases hbs : b1 = s
            · have hb2 : (b2 == m) = false := by simpa using fun e => hne (by rw [hbs, e])
              have hbs2 := hbs.symm
              subst hbs2
              clear hbx hK hKi hjk hj1 hcn hje hKk hxb hne
              have HBX : Hid (∀ d, Below w.heap.size w (wx.drewN d)) := fun d => HBE.out.trans ((DrN.below (b := wx.drewN d) hd.out).mono HBE.out.size)
              have HOX : Hid (∀ d, OwnS (wx.drewN d) w.heap.size u3 (spQ 0 P).length (spR 0 P)) := fun d => OwnS.kept (w' := wx.drewN d) HOW.out (fun q _ => by show wx.heap[q]? = _; rw [hd.out.1])
              have hszx : w.heap.size ≤ wx.heap.size := (HBX.out 0).size
              by_cases hsm : s = 10 ∧ m = 0
              · obtain ⟨rfl, rfl⟩ := hsm
                go_wp2_with fail
                go_quiet (fail)
                go_wp2_with fail
                rw [HKK.out.1]
                exact ⟨HG.out _ _ (by rw [(spQ_base P k).1, (spQ_base P k).2]; exact HOX.out _) (HBX.out _), by simp only [intOf]; have := HM.out; have := HKK.out.2; omega⟩
              · obtain ⟨q1, q2⟩ := spQ_snoc P s m k hsm
                have HQ1 : Hid _ := q1
                rw [HI.out, HKK.out.2] at q2
                have HQ2 : Hid _ := q2
                clear q1 q2
                by_cases hs : s = 10
                · subst hs
                  have hm : ¬ m = 0 := fun e => hsm ⟨rfl, e⟩
                  clear hsm
                  go_wp2_with fail
                  go_quiet (fail)
                  go_wp2_with fail
                  obtain ⟨W5, hW5⟩ : ∃ W5, wx.drewN nq = W5 := ⟨_, rfl⟩
                  have HB5 : Hid (Below w.heap.size w W5) := by rw [← hW5]; exact HBX.out _
                  have HO5 : Hid (OwnS W5 w.heap.size u3 (spQ 0 P).length (spR 0 P)) := by rw [← hW5]; exact HOX.out _
                  rw [hW5]
                  clear hW5
                  obtain ⟨z0, z1⟩ := HCE.out W5 HB5.out I (10, m) (by rw [← HI.out]; exact HIN.out 0 HK0.out)
                  simp only at z0 z1
                  have hsz5 : w.heap.size ≤ W5.heap.size := HB5.out.size
                  go_region_law (first
                    | (refine step_ownS (x0 := (I : Int)) (x1 := (K : Int)) (x2 := 10) (x3 := m) (ad := W5.heap.size) (.tmp 44) (.tmp 58) (OwnS.below HO5.out (by first | exact ((Below.refl _ _).alloc (Nat.le_refl _) _).drew | exact ((Below.refl _ _).drew.alloc (Nat.le_refl _) _))) HL.out ?_ ?_ ?_ ?_ ?_ rfl rfl rfl rfl ?_; (simp; omega); simp; simp; simp; simp; intro v9 w9 hown9 hgr9))
                  all_goals (go_wp2_with fail)
                  all_goals rw [HKK.out.1]
                  all_goals exact ⟨HG.out _ _ (by rw [HQ1.out, HQ2.out]; exact hown9) (Below.grown (HB5.out.alloc HB5.out.size _).drew hgr9 (by simp; omega) (fun q hq => (HO5.out.lt q hq).1)), by simp only [intOf]; have := HM.out; have := HKK.out.2; omega⟩
                · clear hsm
                  go_wp2_with fail
                  go_quiet (fail)
                  go_wp2_with fail
                  obtain ⟨W5, hW5⟩ : ∃ W5, wx.drewN nq = W5 := ⟨_, rfl⟩
                  have HB5 : Hid (Below w.heap.size w W5) := by rw [← hW5]; exact HBX.out _
                  have HO5 : Hid (OwnS W5 w.heap.size u3 (spQ 0 P).length (spR 0 P)) := by rw [← hW5]; exact HOX.out _
                  rw [hW5]
                  clear hW5
                  obtain ⟨z0, z1⟩ := HCE.out W5 HB5.out I (s, m) (by rw [← HI.out]; exact HIN.out 0 HK0.out)
                  simp only at z0 z1
                  have hsz5 : w.heap.size ≤ W5.heap.size := HB5.out.size
                  go_region_law (first
                    | (refine step_ownS (x0 := (I : Int)) (x1 := (K : Int)) (x2 := s) (x3 := m) (ad := W5.heap.size) (.tmp 44) (.tmp 58) (OwnS.below HO5.out (by first | exact ((Below.refl _ _).alloc (Nat.le_refl _) _).drew | exact ((Below.refl _ _).drew.alloc (Nat.le_refl _) _))) HL.out ?_ ?_ ?_ ?_ ?_ rfl rfl rfl rfl ?_; (simp; omega); simp; simp; simp; simp; intro v9 w9 hown9 hgr9))
                  all_goals (go_wp2_with fail)
                  all_goals rw [HKK.out.1]
                  all_goals exact ⟨HG.out _ _ (by rw [HQ1.out, HQ2.out]; exact hown9) (Below.grown (HB5.out.alloc HB5.out.size _).drew hgr9 (by simp; omega) (fun q hq => (HO5.out.lt q hq).1)), by simp only [intOf]; have := HM.out; have := HKK.out.2; omega⟩
            · have hb1 : (b1 == s) = false := by simpa using hbs
              clear hbx hK hKi hjk hj1 hcn hje hKk hxb hne hbs
              have HBX : Hid (∀ d, Below w.heap.size w (wx.drewN d)) := fun d => HBE.out.trans ((DrN.below (b := wx.drewN d) hd.out).mono HBE.out.size)
              have HOX : Hid (∀ d, OwnS (wx.drewN d) w.heap.size u3 (spQ 0 P).length (spR 0 P)) := fun d => OwnS.kept (w' := wx.drewN d) HOW.out (fun q _ => by show wx.heap[q]? = _; rw [hd.out.1])
              have hszx : w.heap.size ≤ wx.heap.size := (HBX.out 0).size
              by_cases hsm : s = 10 ∧ m = 0
              · obtain ⟨rfl, rfl⟩ := hsm
                go_wp2_with fail
                go_quiet (fail)
                go_wp2_with fail
                rw [HKK.out.1]
                exact ⟨HG.out _ _ (by rw [(spQ_base P k).1, (spQ_base P k).2]; exact HOX.out _) (HBX.out _), by simp only [intOf]; have := HM.out; have := HKK.out.2; omega⟩
              · obtain ⟨q1, q2⟩ := spQ_snoc P s m k hsm
                have HQ1 : Hid _ := q1
                rw [HI.out, HKK.out.2] at q2
                have HQ2 : Hid _ := q2
                clear q1 q2
                by_cases hs : s = 10
                · subst hs
                  have hm : ¬ m = 0 := fun e => hsm ⟨rfl, e⟩
                  clear hsm
                  go_wp2_with fail
                  go_quiet (fail)
                  go_wp2_with fail
                  obtain ⟨W5, hW5⟩ : ∃ W5, wx.drewN nq = W5 := ⟨_, rfl⟩
                  have HB5 : Hid (Below w.heap.size w W5) := by rw [← hW5]; exact HBX.out _
                  have HO5 : Hid (OwnS W5 w.heap.size u3 (spQ 0 P).length (spR 0 P)) := by rw [← hW5]; exact HOX.out _
                  rw [hW5]
                  clear hW5
                  obtain ⟨z0, z1⟩ := HCE.out W5 HB5.out I (10, m) (by rw [← HI.out]; exact HIN.out 0 HK0.out)
                  simp only at z0 z1
                  have hsz5 : w.heap.size ≤ W5.heap.size := HB5.out.size
                  go_region_law (first
                    | (refine step_ownS (x0 := (I : Int)) (x1 := (K : Int)) (x2 := 10) (x3 := m) (ad := W5.heap.size) (.tmp 44) (.tmp 58) (OwnS.below HO5.out (by first | exact ((Below.refl _ _).alloc (Nat.le_refl _) _).drew | exact ((Below.refl _ _).drew.alloc (Nat.le_refl _) _))) HL.out ?_ ?_ ?_ ?_ ?_ rfl rfl rfl rfl ?_; (simp; omega); simp; simp; simp; simp; intro v9 w9 hown9 hgr9))
                  all_goals (go_wp2_with fail)
                  all_goals rw [HKK.out.1]
                  all_goals exact ⟨HG.out _ _ (by rw [HQ1.out, HQ2.out]; exact hown9) (Below.grown (HB5.out.alloc HB5.out.size _).drew hgr9 (by simp; omega) (fun q hq => (HO5.out.lt q hq).1)), by simp only [intOf]; have := HM.out; have := HKK.out.2; omega⟩
                · clear hsm
                  go_wp2_with fail
                  go_quiet (fail)
                  go_wp2_with fail
                  obtain ⟨W5, hW5⟩ : ∃ W5, wx.drewN nq = W5 := ⟨_, rfl⟩
                  have HB5 : Hid (Below w.heap.size w W5) := by rw [← hW5]; exact HBX.out _
                  have HO5 : Hid (OwnS W5 w.heap.size u3 (spQ 0 P).length (spR 0 P)) := by rw [← hW5]; exact HOX.out _
                  rw [hW5]
                  clear hW5
                  obtain ⟨z0, z1⟩ := HCE.out W5 HB5.out I (s, m) (by rw [← HI.out]; exact HIN.out 0 HK0.out)
                  simp only at z0 z1
                  have hsz5 : w.heap.size ≤ W5.heap.size := HB5.out.size
                  go_region_law (first
                    | (refine step_ownS (x0 := (I : Int)) (x1 := (K : Int)) (x2 := s) (x3 := m) (ad := W5.heap.size) (.tmp 44) (.tmp 58) (OwnS.below HO5.out (by first | exact ((Below.refl _ _).alloc (Nat.le_refl _) _).drew | exact ((Below.refl _ _).drew.alloc (Nat.le_refl _) _))) HL.out ?_ ?_ ?_ ?_ ?_ rfl rfl rfl rfl ?_; (simp; omega); simp; simp; simp; simp; intro v9 w9 hown9 hgr9))
                  all_goals (go_wp2_with fail)
                  all_goals rw [HKK.out.1]
                  all_goals exact ⟨HG.out _ _ (by rw [HQ1.out, HQ2.out]; exact hown9) (Below.grown (HB5.out.alloc HB5.out.size _).drew hgr9 (by simp; omega) (fun q hq => (HO5.out.lt q hq).1)), by simp only [intOf]; have := HM.out; have := HKK.out.2; omega⟩
end Go.Proofs.Ytobmdefklgkoiaa
