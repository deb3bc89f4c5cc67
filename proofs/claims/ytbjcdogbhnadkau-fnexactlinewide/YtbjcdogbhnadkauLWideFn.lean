import Derived.Test.YtbjcdogbhnadkauLWide
namespace Go.Proofs.Ytbjcdogbhnadkau
open Go.ChangeShapes Go.WideShapes Go.ChangeAt Go.RowKit
set_option linter.unusedSimpArgs false

def wOk (y : Nat → Int) (m : Nat) : Bool := allB (fun j => inB (y j) 0 20000) m
theorem wOk_yes {y : Nat → Int} {m : Nat} (h : ∀ j, j < m → inB (y j) 0 20000 = true) : wOk y m = true := (allB_iff _ _).2 h
theorem wOk_no {y : Nat → Int} {m k : Nat} (hk : k < m) (h : inB (y k) 0 20000 = false) : wOk y m = false := allB_false (p := fun j => inB (y j) 0 20000) hk h
theorem wOk_out {y : Nat → Int} {m : Nat} (h : wOk y m = true) : ∀ j, j < m → 0 ≤ y j ∧ y j ≤ 20000 := fun j hj => by
  have := (allB_iff _ _).1 h j hj; simpa [inB] using this
def lw (z y : Nat → Int) (n m : Nat) (f t : Int) : Int :=
  if okF z n = true ∧ m = n ∧ wOk y m = true ∧ 0 ≤ f ∧ f ≤ t ∧ t ≤ (n : Int) then lineSum z y f.toNat t.toNat else 0

set_option maxHeartbeats 1000000 in
theorem implWOk (x : Int) (w : World) : Calls Try.prog 46 #[.int .i64 x] w fun e w' => e = .returned (.bool (inB x 0 20000)) ∧ w' = w := by
  go_enter Try.func46, Try.ntmps46
  go_wp2
  all_goals (go_ret; refine ⟨retBool ?_, rfl⟩)
  all_goals (simp [inB])
  all_goals omega
def thereB (n : Nat) (f t : Int) : Bool := decide (0 ≤ f ∧ f ≤ t ∧ t ≤ (n : Int))
set_option maxHeartbeats 1000000 in
theorem implThere (a : Option Addr) (n cap : Nat) (f t : Int) (w : World) : Calls Try.prog 45 #[.slice a n cap, .int .i64 f, .int .i64 t] w fun e w' => e = .returned (.bool (thereB n f t)) ∧ w' = w := by
  go_enter Try.func45, Try.ntmps45
  go_wp2
  all_goals (go_ret; refine ⟨retBool ?_, rfl⟩)
  all_goals (unfold thereB; by_cases q : t ≤ (n : Int) <;> simp [q] <;> omega)

def l7okB (l y : List Int) : Bool := wOk (fn y) y.length && (okF (fn l) l.length && decide (y.length = l.length))

set_option maxHeartbeats 2000000 in
theorem specL7OkRaw (v u : Value) (l y : List Int) (w : World) (hv : Arg w v l) (hu : Arg w u y) (hl : l.length ≤ 1048576) (hy : y.length ≤ 1048576) :
    Calls Try.prog 42 #[v, u] w fun e w' => e = .returned (.bool (wOk (fn y) y.length && (okF (fn l) l.length && decide (y.length = l.length)))) ∧ w' = w := by
  have HV : Hid (Arg w v l) := hv
  obtain ⟨a, cap, rfl, _⟩ := hv.rdI
  obtain ⟨c, cp, rfl, hr, _⟩ := hu.rdI
  have HRD : Hid (RdI w c y.length y) := hr
  clear hv hu hr
  obtain ⟨m, hm⟩ : ∃ m, y.length = m := ⟨_, rfl⟩
  rw [hm] at HRD hy ⊢
  clear hm
  go_enter Try.func42, Try.ntmps42
  go_wp2_with fail
  go_loop [5] (fun i => ∃ k : Nat, k ≤ m ∧ i = .int .i64 k ∧ Hid (∀ j, j < k → inB (fn y j) 0 20000 = true)) (fun i => m - (intOf i).toNat)
  case atStart => exact ⟨0, Nat.zero_le _, rfl, fun j hj => by omega⟩
  case round =>
    obtain ⟨k, hk, rfl, hok⟩ := hrel
    by_cases hlt : k < m
    · obtain ⟨b, off, rfl, hb, hat⟩ := HRD.out (by omega)
      have hcell : w.cell? ⟨b, off + k, none⟩ = some (.int .i64 (fn y k)) := hat k hlt
      clear hat
      by_cases hq : inB (fn y k) 0 20000 = true
      · go_wp2_with fail
        refine (specIn _ _ _ _).mono ?_
        rintro e w1 ⟨rfl, rfl⟩
        rw [hq]
        go_wp2_with fail
        refine ⟨⟨k + 1, by omega, by go_num, fun j hj => ?_⟩, by simp only [intOf]; omega⟩
        by_cases ej : j = k
        · subst ej; exact hq
        · exact hok.out j (by omega)
      · have hq2 : inB (fn y k) 0 20000 = false := by simpa using hq
        have HQ : Hid _ := wOk_no hlt hq2
        go_wp2_with fail
        refine (specIn _ _ _ _).mono ?_
        rintro e w1 ⟨rfl, rfl⟩
        rw [hq2]
        go_wp2_with fail
        go_ret
        exact ⟨retBool (by rw [HQ.out]; rfl), rfl⟩
    · have e : k = m := by omega
      subst e
      have HQ : Hid _ := wOk_yes hok.out
      go_wp2_with fail
      refine (specOk _ l _ HV.out (by omega)).mono ?_
      rintro e w1 ⟨rfl, rfl⟩
      by_cases ho : okF (fn l) l.length = true
      · have HO : Hid _ := ho
        rw [ho]
        go_wp2_with fail
        go_ret
        refine ⟨retBool ?_, rfl⟩
        rw [HQ.out, HO.out]
        simp
        by_cases e : k = l.length
        · simp [e]
        · simp [e]; omega
      · have ho2 : okF (fn l) l.length = false := by simpa using ho
        have HO : Hid _ := ho2
        rw [ho2]
        go_wp2_with fail
        go_ret
        exact ⟨retBool (by rw [HO.out]; simp), rfl⟩

theorem specL7Ok (v u : Value) (l y : List Int) (w : World) (hv : Arg w v l) (hu : Arg w u y) (hl : l.length ≤ 1048576) (hy : y.length ≤ 1048576) (q : Bool) (hq : Hid (l7okB l y = q)) :
    Calls Try.prog 42 #[v, u] w fun e w' => e = .returned (.bool q) ∧ w' = w := by
  rw [← hq.out]; exact specL7OkRaw v u l y w hv hu hl hy
theorem lw_bad {z y : Nat → Int} {n m : Nat} {f t : Int} (h : ¬ (okF z n = true ∧ m = n ∧ wOk y m = true ∧ 0 ≤ f ∧ f ≤ t ∧ t ≤ (n : Int))) : lw z y n m f t = 0 := by unfold lw; rw [if_neg h]
theorem lw_is {z y : Nat → Int} {n m f t : Nat} (h : okF z n = true) (hm : m = n) (hw : wOk y m = true) (hf : f ≤ t) (ht : t ≤ n) : lw z y n m f t = lineSum z y f t := by
  unfold lw; rw [if_pos ⟨h, hm, hw, by omega, by omega, by omega⟩]; simp

set_option maxHeartbeats 2000000 in
theorem specLW (v u : Value) (l y : List Int) (f t : Int) (w : World) (hv : Arg w v l) (hu : Arg w u y) (hl : l.length ≤ 1048576) (hy : y.length ≤ 1048576) (r : Int) (hr : Hid (lw (fn l) (fn y) l.length y.length f t = r)) :
    Calls Try.prog 21 #[v, u, .int .i64 f, .int .i64 t] w fun e w' => e = .returned (.int .i64 r) ∧ Below w.heap.size w w' := by
  have HV : Hid (Arg w v l) := hv
  have HU : Hid (Arg w u y) := hu
  by_cases hc : l7okB l y = true
  · have HC : Hid _ := hc
    have hc2 := hc
    simp only [l7okB, Bool.and_eq_true, decide_eq_true_eq] at hc2
    obtain ⟨c1, c2, c3⟩ := hc2
    have C1 : Hid _ := c1
    have C2 : Hid _ := c2
    have C3 : Hid _ := c3
    obtain ⟨a, cap, rfl, ra, _⟩ := hv.rdI
    obtain ⟨c, cp, rfl, rc, _⟩ := hu.rdI
    have RA : Hid (RdI w a l.length l) := ra
    have RC : Hid (RdI w c y.length y) := rc
    have h80 := okF_len c2
    clear hv hu ra rc hc c1 c2
    rw [c3] at RC ⊢
    clear c3
    by_cases q1 : inB f 0 (l.length : Int) = true
    · by_cases q2 : inB t f (l.length : Int) = true
      · obtain ⟨f', rfl⟩ : ∃ f' : Nat, f = (f' : Int) := ⟨f.toNat, by have := inB_true q1; omega⟩
        obtain ⟨t', rfl⟩ : ∃ t' : Nat, t = (t' : Int) := ⟨t.toNat, by have := inB_true q1; have := inB_true q2; omega⟩
        have hb1 := inB_true q1
        have hb2 := inB_true q2
        have HR : Hid (lineSum (fn l) (fn y) f' t' = r) := by show _ = _; rw [← hr.out, lw_is C2.out C3.out C1.out (by omega) (by omega)]
        go_enter Try.func21, Try.ntmps21
        go_wp2_with fail
        refine (specL7Ok _ _ l y _ HV.out (by have := HU.out; rw [C3.out] at this; exact this) hl hy _ HC).mono ?_
        rintro e w1 ⟨rfl, rfl⟩
        go_wp2_with fail
        refine (specIn _ _ _ _).mono ?_
        rintro e w1 ⟨rfl, rfl⟩
        rw [q1]
        go_wp2_with fail
        refine (specIn _ _ _ _).mono ?_
        rintro e w1 ⟨rfl, rfl⟩
        rw [q2]
        go_wp2_with fail
        refine (specSum a c l.length cap cp f' t' l y _ RA RC (by omega) (by omega) h80 (fun j hj => wOk_out C1.out j (by rw [C3.out]; exact hj)) r HR).mono ?_
        rintro e w1 ⟨rfl, b1⟩
        go_wp2_with fail
        go_ret
        exact ⟨rfl, b1⟩
      · have q3 : inB t f (l.length : Int) = false := by simpa using q2
        have HR : Hid (r = 0) := by show _ = _; rw [← hr.out]; exact lw_bad (fun hh => inB_false q3 ⟨hh.2.2.2.2.1, hh.2.2.2.2.2⟩)
        go_enter Try.func21, Try.ntmps21
        go_wp2_with fail
        refine (specL7Ok _ _ l y _ HV.out (by have := HU.out; rw [C3.out] at this; exact this) hl hy _ HC).mono ?_
        rintro e w1 ⟨rfl, rfl⟩
        go_wp2_with fail
        refine (specIn _ _ _ _).mono ?_
        rintro e w1 ⟨rfl, rfl⟩
        rw [q1]
        go_wp2_with fail
        refine (specIn _ _ _ _).mono ?_
        rintro e w1 ⟨rfl, rfl⟩
        rw [q3]
        go_wp2_with fail
        go_ret
        exact ⟨retInt HR.out.symm, Below.refl _ _⟩
    · have q3 : inB f 0 (l.length : Int) = false := by simpa using q1
      have HR : Hid (r = 0) := by show _ = _; rw [← hr.out]; exact lw_bad (fun hh => inB_false q3 ⟨hh.2.2.2.1, by have := hh.2.2.2.2.1; have := hh.2.2.2.2.2; omega⟩)
      go_enter Try.func21, Try.ntmps21
      go_wp2_with fail
      refine (specL7Ok _ _ l y _ HV.out (by have := HU.out; rw [C3.out] at this; exact this) hl hy _ HC).mono ?_
      rintro e w1 ⟨rfl, rfl⟩
      go_wp2_with fail
      refine (specIn _ _ _ _).mono ?_
      rintro e w1 ⟨rfl, rfl⟩
      rw [q3]
      go_wp2_with fail
      go_ret
      exact ⟨retInt HR.out.symm, Below.refl _ _⟩
  · have hc2 : l7okB l y = false := by simpa using hc
    have HC : Hid _ := hc2
    have HR : Hid (r = 0) := by
      show _ = _; rw [← hr.out]; exact lw_bad (fun hh => hc (by unfold l7okB; rw [hh.1, hh.2.2.1]; simp; exact hh.2.1))
    obtain ⟨a, cap, rfl, _⟩ := hv.rdI
    obtain ⟨c, cp, rfl, _⟩ := hu.rdI
    clear hv hu hc hc2
    go_enter Try.func21, Try.ntmps21
    go_wp2_with fail
    refine (specL7Ok _ _ l y _ HV.out HU.out hl hy _ HC).mono ?_
    rintro e w1 ⟨rfl, rfl⟩
    go_wp2_with fail
    go_ret
    exact ⟨retInt HR.out.symm, Below.refl _ _⟩

set_option maxHeartbeats 4000000 in
theorem implLW (v u : Value) (l y : List Int) (f t : Int) (w : World) (hv : Arg w v l) (hu : Arg w u y) (hl : l.length ≤ 1048576) (hy : y.length ≤ 1048576) (r : Int) (hr : Hid (lw (fn l) (fn y) l.length y.length f t = r)) :
    Calls Try.prog 22 #[v, u, .int .i64 f, .int .i64 t] w fun e w' => e = .returned (.int .i64 r) ∧ Below w.heap.size w w' := by
  have HV : Hid (Arg w v l) := hv
  obtain ⟨a, cap, rfl, ra, _⟩ := hv.rdI
  obtain ⟨c, cp, rfl, rc, hcp⟩ := hu.rdI
  have RA : Hid (RdI w a l.length l) := ra
  have RC : Hid (RdI w c y.length y) := rc
  have HCP : Hid _ := hcp
  clear hv hu ra rc hcp
  by_cases h1 : okF (fn l) l.length = true
  · by_cases h2 : y.length = l.length
    · by_cases h3 : thereB l.length f t = true
      · have H1 : Hid _ := h1
        have H2 : Hid _ := h2
        have H3 : Hid _ := h3
        have h80 := okF_len h1
        have hth : 0 ≤ f ∧ f ≤ t ∧ t ≤ (l.length : Int) := by simpa [thereB] using h3
        obtain ⟨f', rfl⟩ : ∃ f' : Nat, f = (f' : Int) := ⟨f.toNat, by omega⟩
        obtain ⟨t', rfl⟩ : ∃ t' : Nat, t = (t' : Int) := ⟨t.toNat, by omega⟩
        obtain ⟨n, hn⟩ : ∃ n, l.length = n := ⟨_, rfl⟩
        have HN : Hid _ := hn
        rw [h2] at RC HCP hr ⊢
        rw [hn] at RC RA HCP hr H1 H3 h80 hth h2 ⊢
        have hne : ((n : Int) != (n : Int)) = false := by simp
        clear h1 h3 hn
        go_enter Try.func22, Try.ntmps22
        go_wp2_with fail
        refine (implOk _ l _ ?_ (by omega)).mono ?_
        · have := HV.out; rw [HN.out] at this; exact this
        rintro e w1 ⟨rfl, rfl⟩
        rw [HN.out, H1.out]
        go_wp2_with fail
        refine (implThere a n cap f' t' _).mono ?_
        rintro e w1 ⟨rfl, rfl⟩
        rw [H3.out]
        go_wp2_with fail
        go_loop [30] (fun i => ∃ k : Nat, k ≤ n ∧ i = .int .i64 k ∧ Hid (∀ j, j < k → inB (fn y j) 0 20000 = true)) (fun i => n - (intOf i).toNat)
        case atStart => exact ⟨0, Nat.zero_le _, rfl, fun j hj => by omega⟩
        case round =>
          obtain ⟨k, hk, rfl, hok⟩ := hrel
          by_cases hlt : k < n
          · obtain ⟨b, off, rfl, hb, hat⟩ := RC.out (by omega)
            have hcell : w1.cell? ⟨b, off + k, none⟩ = some (.int .i64 (fn y k)) := hat k hlt
            clear hat
            by_cases hq : inB (fn y k) 0 20000 = true
            · go_wp2_with fail
              refine (implWOk _ _).mono ?_
              rintro e w2 ⟨rfl, rfl⟩
              rw [hq]
              go_wp2_with fail
              refine ⟨⟨k + 1, by omega, by go_num, fun j hj => ?_⟩, by simp only [intOf]; omega⟩
              by_cases ej : j = k
              · subst ej; exact hq
              · exact hok.out j (by omega)
            · have hq2 : inB (fn y k) 0 20000 = false := by simpa using hq
              have HR : Hid (r = 0) := by
                show _ = _; rw [← hr.out]; exact lw_bad (fun hh => by have := wOk_no (y := fn y) hlt hq2; rw [this] at hh; cases hh.2.2.1)
              go_wp2_with fail
              refine (implWOk _ _).mono ?_
              rintro e w2 ⟨rfl, rfl⟩
              rw [hq2]
              go_wp2_with fail
              go_ret
              exact ⟨retInt HR.out.symm, Below.refl _ _⟩
          · have e : k = n := by omega
            subst e
            have HR : Hid (lineSum (fn l) (fn y) f' t' = r) := by show _ = _; rw [← hr.out, lw_is H1.out rfl (wOk_yes hok.out) (by omega) (by omega)]
            go_wp2_with fail
            refine (implSum a c k cap cp f' t' l y _ RA RC HCP.out (by omega) (by omega) h80 (fun j hj => by have := hok.out j hj; simpa [inB] using this) r HR).mono ?_
            rintro e w2 ⟨rfl, b2⟩
            go_wp2_with fail
            go_ret
            exact ⟨rfl, b2⟩
      · have h4 : thereB l.length f t = false := by simpa using h3
        have HR : Hid (r = 0) := by show _ = _; rw [← hr.out]; exact lw_bad (fun hh => h3 (by simp [thereB]; exact hh.2.2.2))
        have H1 : Hid _ := h1
        have H4 : Hid _ := h4
        rw [h2]
        clear h1 h3 h4 h2
        have hne : ((l.length : Int) != (l.length : Int)) = false := by simp
        go_enter Try.func22, Try.ntmps22
        go_wp2_with fail
        refine (implOk _ l _ HV.out (by omega)).mono ?_
        rintro e w1 ⟨rfl, rfl⟩
        rw [H1.out]
        go_wp2_with fail
        refine (implThere a l.length cap f t _).mono ?_
        rintro e w1 ⟨rfl, rfl⟩
        rw [H4.out]
        go_wp2_with fail
        go_ret
        exact ⟨retInt HR.out.symm, Below.refl _ _⟩
    · have HR : Hid (r = 0) := by show _ = _; rw [← hr.out]; exact lw_bad (fun hh => h2 hh.2.1)
      have H1 : Hid _ := h1
      have hne : ((y.length : Int) != (l.length : Int)) = true := by simp; omega
      clear h1 h2
      go_enter Try.func22, Try.ntmps22
      go_wp2_with fail
      refine (implOk _ l _ HV.out (by omega)).mono ?_
      rintro e w1 ⟨rfl, rfl⟩
      rw [H1.out]
      go_wp2_with fail
      go_ret
      exact ⟨retInt HR.out.symm, Below.refl _ _⟩
  · have h2 : okF (fn l) l.length = false := by simpa using h1
    have HR : Hid (r = 0) := by show _ = _; rw [← hr.out]; exact lw_bad (fun hh => h1 hh.1)
    have H1 : Hid _ := h2
    clear h1 h2
    go_enter Try.func22, Try.ntmps22
    go_wp2_with fail
    refine (implOk _ l _ HV.out (by omega)).mono ?_
    rintro e w1 ⟨rfl, rfl⟩
    rw [H1.out]
    go_wp2_with fail
    go_ret
    exact ⟨retInt HR.out.symm, Below.refl _ _⟩

end Go.Proofs.Ytbjcdogbhnadkau
