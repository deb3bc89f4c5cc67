import Derived.Test.YtgojdlbidjnmmabGreatPk24
import Derived.Test.YtgojdlbidjnmmabGreatPk3
import Derived.Test.YtgojdlbidjnmmabGreatPk20
namespace Go.Proofs.YtgojdlbidjnmmabGreat
open Go.ChangeShapes Go.WideShapes Go.ChangeAt Go.RowKit
set_option linter.unusedSimpArgs false

set_option maxHeartbeats 2000000 in
theorem held_any (v : Value) (n : Nat) (k : Int) (w : World) (hv : Arg w v (marks k n)) (hl : n ≤ 1048576) (hk0 : 0 ≤ k) (hk1 : k ≤ 1000000000000) :
    Calls Tryz.prog 9 #[v, .int .i64 k] w fun e w' => e = .returned (.int .i64 (k + (n : Int))) ∧ w' = w := by
  rcases hv with ⟨a0, c0, rfl, e⟩ | ⟨g, off, cap, rfl, hgw, hlc, hcm, hat⟩
  · have e0 : n = 0 := by have := congrArg List.length e; rw [marks_len] at this; exact this
    subst e0
    go_enter Tryz.func9, Tryz.ntmps9
    go_wp2
    go_rounds 1
    go_ret
    exact ⟨retInt (by simp), rfl⟩
  · rw [marks_len] at *
    go_enter Tryz.func9, Tryz.ntmps9
    go_wp2
    go_loop [1, 5] (fun q i => ∃ (m : Nat), m ≤ n ∧ i = .int .i64 m ∧ q = .int .i64 (k + (m : Int))) (fun _ i => n - (intOf i).toNat)
    case atStart => exact ⟨0, Nat.zero_le _, rfl, by go_num⟩
    case round =>
      obtain ⟨m, hm, rfl, rfl⟩ := hrel
      by_cases hlt : m < n
      · have hc2 : w.cell? ⟨g, off + m, none⟩ = some (.int .i64 (k + (m : Int))) := by
          rw [hat m (by rw [marks_len]; exact hlt), fn_marks hlt]
        go_wp2
        go_round
        case rel => exact ⟨m + 1, by omega, by go_num, by go_num⟩
        case measure => simp only [intOf]; omega
      · have e : m = n := by omega
        subst e
        go_wp2
        go_ret
        exact ⟨rfl, rfl⟩
end Go.Proofs.YtgojdlbidjnmmabGreat
namespace Go.Proofs.YtgojdlbidjnmmabGreat
open Go.ChangeShapes Go.WideShapes Go.ChangeAt Go.RowKit
set_option linter.unusedSimpArgs false

theorem eqI_yes (v1 v2 : Value) (l : List Int) (w : World) (h1 : Arg w v1 l) (h2 : Arg w v2 l) (hl : l.length ≤ 4194304) :
    Calls Tryz.prog 7 #[v1, v2] w fun e w' => e = .returned (.bool true) ∧ Below w.heap.size w w' := by
  refine (eqInt_any v1 v2 l l w h1 h2 hl).mono ?_
  rintro e w' ⟨rfl, n, rfl⟩
  exact ⟨retBool (eqB_self l), below_draws w n⟩
/-- A row keeps what it holds where another row is marked. -/
theorem OwnI.aside {w w' : World} {v u : Value} {l : List Int} {B : Nat} (h : OwnI w B v l) (hg : w.grownBy w' u.ownBlock) (hne : ∀ k, v.ownBlock = some k → u.ownBlock ≠ some k) : OwnI w' B v l :=
  h.kept fun k hk => hg.block k (h.lt k hk).2 (fun e => hne k hk e.symm)
theorem heldB_any (v : Value) (n : Nat) (k : Int) (w : World) (hv : Arg w v (marks k n)) (hl : n ≤ 1048576) (hk0 : 0 ≤ k) (hk1 : k ≤ 1000000000000) :
    Calls Tryz.prog 9 #[v, .int .i64 k] w fun e w' => e = .returned (.int .i64 (k + (n : Int))) ∧ Below w.heap.size w w' :=
  (held_any v n k w hv hl hk0 hk1).mono fun _ _ ⟨h1, h2⟩ => ⟨h1, by rw [h2]; exact Below.refl _ _⟩
end Go.Proofs.YtgojdlbidjnmmabGreat
namespace Go.Proofs.YtgojdlbidjnmmabGreat
set_option linter.unusedSimpArgs false
set_option linter.unusedVariables false

/-- Whether what ends a part stands at a place, or what goes with an end. -/
def endB (r : Int) : Bool := decide (r = 10 ∨ bidi r = 11)
def goesB (r : Int) : Bool := decide (r = 32 ∨ 19 ≤ bidi r)
/-- Whether all is empty from the place m - d on. -/
def emT (x lev : Nat → Int) (m : Nat) : Nat → Bool
  | 0 => true
  | d + 1 => if lev (m - (d + 1)) < 0 then emT x lev m d else endB (x (m - (d + 1))) || (emT x lev m d && goesB (x (m - (d + 1))))
def llA (x lev : Nat → Int) (m : Nat) (base : Int) (j : Nat) : Int := if 0 ≤ lev j ∧ emT x lev m (m - j) = true then base else lev j
/-- The levels of a line, from the place k on in order. -/
def llP (x lev : Nat → Int) (m : Nat) (base : Int) (k : Nat) : List Int := mkL m (fun j => if k ≤ j then llA x lev m base j else lev j)
def llF (x lev : Nat → Int) (m : Nat) (base : Int) : List Int := mkL m (llA x lev m base)
theorem llP_len (x lev : Nat → Int) (m : Nat) (base : Int) (k : Nat) : (llP x lev m base k).length = m := mkL_len _ _
theorem llF_len (x lev : Nat → Int) (m : Nat) (base : Int) : (llF x lev m base).length = m := mkL_len _ _
theorem fn_llP {x lev : Nat → Int} {m : Nat} {base : Int} {k j : Nat} (h : j < m) : fn (llP x lev m base k) j = if k ≤ j then llA x lev m base j else lev j := fn_mkL h
theorem llP_zero (x lev : Nat → Int) (m : Nat) (base : Int) : llP x lev m base 0 = llF x lev m base := mkL_eq (llF_len _ _ _ _) (fun j hj => by rw [if_pos (Nat.zero_le _)]; exact (fn_mkL hj).symm)
theorem llP_start {x lev : Nat → Int} {m : Nat} {base : Int} {l : List Int} (hl : l.length = m) (h : ∀ j, j < m → lev j = fn l j) : llP x lev m base m = l :=
  mkL_eq hl (fun j hj => by rw [if_neg (by omega)]; exact h j hj)
theorem llP_keep {x lev : Nat → Int} {m : Nat} {base : Int} {k : Nat} (hk : k < m) (e : llA x lev m base k = lev k) : llP x lev m base k = llP x lev m base (k + 1) := by
  refine mkL_eq (llP_len _ _ _ _ _) (fun j hj => ?_)
  rw [fn_llP hj]
  by_cases q : j = k
  · subst q; rw [if_pos (Nat.le_refl _), if_neg (by omega), e]
  · by_cases q2 : k ≤ j
    · rw [if_pos q2, if_pos (by omega)]
    · rw [if_neg q2, if_neg (by omega)]
theorem llP_set {x lev : Nat → Int} {m : Nat} {base : Int} {k : Nat} (hk : k < m) {v : Int} (e : llA x lev m base k = v) : (llP x lev m base (k + 1)).set k v = llP x lev m base k := by
  symm
  refine mkL_eq (by rw [List.length_set, llP_len]) (fun j hj => ?_)
  by_cases q : j = k
  · subst q; rw [fn_set_same (by rw [llP_len]; exact hk), if_pos (Nat.le_refl _), e]
  · rw [fn_set_other (fun h => q h.symm), fn_llP hj]
    by_cases q2 : k ≤ j
    · rw [if_pos q2, if_pos (by omega)]
    · rw [if_neg q2, if_neg (by omega)]
theorem emT_step {x lev : Nat → Int} {m k : Nat} (hk : k < m) : emT x lev m (m - k) = if lev k < 0 then emT x lev m (m - (k + 1)) else endB (x k) || (emT x lev m (m - (k + 1)) && goesB (x k)) := by
  rw [show m - k = (m - (k + 1)) + 1 by omega]
  simp only [emT]
  rw [show m - (m - (k + 1) + 1) = k by omega]
/-- The levels of a line as both give them. -/
def lineLv (l : List Int) (mt : Nat → Nat) (base : Int) (f t : Nat) : List Int := llF (fun j => fn l (f + j)) (fun j => fn (levsF l mt base) (f + j)) (t - f) base
def lineLR (l : List Int) (mt : Nat → Nat) (base f t : Int) : List Int :=
  if okT l base = true ∧ 0 ≤ f ∧ f ≤ t ∧ t ≤ l.length then lineLv l mt base f.toNat t.toNat else []
theorem bidi_11 (r : Int) : bidi r = 11 ↔ r = 9 := by
  unfold bidi signs moves
  repeat' split
  all_goals omega
theorem bidi_12 (r : Int) : bidi r = 12 ↔ r = 32 := by
  unfold bidi signs moves
  repeat' split
  all_goals omega
end Go.Proofs.YtgojdlbidjnmmabGreat
namespace Go.Proofs.YtgojdlbidjnmmabGreat
set_option linter.unusedSimpArgs false
set_option linter.unusedVariables false

/-- Pairs lie at signs. -/
theorem st_on (l c : Nat → Int) (mate : Int → Int) (n : Nat) : (∀ x ∈ (stB l c mate n).1, c x = 13) ∧ ∀ p ∈ (stB l c mate n).2, c p.1 = 13 ∧ c p.2 = 13 := by
  induction n with
  | zero => simp [stB]
  | succ n ih =>
    obtain ⟨h1, h2⟩ := ih
    simp only [stB]
    unfold stepB
    split
    · exact ⟨h1, h2⟩
    · rename_i hq
      have hn : c n = 13 := Decidable.byContradiction fun e => hq (.inr e)
      split
      · refine ⟨fun x hx => ?_, h2⟩
        rcases List.mem_append.1 hx with hx | hx
        · exact h1 x hx
        · simp at hx; subst hx; exact hn
      · cases hs : scanF l (stB l c mate n).1 (mate (l n)) (stB l c mate n).1.length with
        | none => exact ⟨h1, h2⟩
        | some k =>
          obtain ⟨hk, _, _⟩ := scan_some hs
          refine ⟨fun x hx => h1 x (List.mem_of_mem_take hx), fun p hp => ?_⟩
          rcases List.mem_append.1 hp with hp | hp
          · exact h2 p hp
          · simp only [List.mem_singleton] at hp; subst hp
            refine ⟨h1 _ ?_, hn⟩
            show (stB l c mate n).1.getD k 0 ∈ _
            rw [show (stB l c mate n).1.getD k 0 = (stB l c mate n).1[k] by simp [hk]]
            exact List.getElem_mem _
theorem k9F_all {t : Nat → Int} : ∀ (f s i : Nat), i < k9F t s f → t (s + i) = 9
  | 0, s, i, h => by simp [k9F] at h
  | f + 1, s, i, h => by
    simp only [k9F] at h
    by_cases e : t s = 9
    · rw [if_pos e] at h
      cases i with
      | zero => exact e
      | succ i => have := k9F_all (t := t) f (s + 1) i (by omega); rwa [show s + 1 + i = s + (i + 1) by omega] at this
    · rw [if_neg e] at h; omega
theorem giveL_keep {t : Nat → Int} {n : Nat} {s : Int} {x : List Int} {a j : Nat} (hj : j < x.length) (h1 : j ≠ a) (h2 : t j ≠ 9) : fn (giveL t n s x a) j = fn x j := by
  unfold giveL
  rw [fn_setSeg hj, if_neg]
  rintro ⟨h3, h4⟩
  have := k9F_all (t := t) (n - (a + 1)) (a + 1) (j - (a + 1)) (by omega)
  rw [show a + 1 + (j - (a + 1)) = j by omega] at this
  exact h2 this
theorem resP_keep {t : Nat → Int} {n : Nat} {o bf : Int} {x : List Int} {p : Nat × Nat} {j : Nat} (hj : j < x.length) (h1 : j ≠ p.1 ∧ j ≠ p.2) (h2 : t j ≠ 9) : fn (resP t n o bf x p) j = fn x j := by
  unfold resP; split
  · rfl
  · rw [giveL_keep (by rw [giveL_len]; exact hj) h1.2 h2, giveL_keep hj h1.1 h2]
theorem resTo_keep {t : Nat → Int} {n : Nat} {o bf : Int} {j : Nat} (h2 : t j ≠ 9) : ∀ (P : List (Nat × Nat)) (x : List Int), j < x.length → (∀ p ∈ P, j ≠ p.1 ∧ j ≠ p.2) → fn (resTo t n o bf x P) j = fn x j
  | [], x, _, _ => rfl
  | p :: r, x, hj, h => by
    show fn (resTo t n o bf (resP t n o bf x p) r) j = _
    rw [resTo_keep h2 r _ (by rw [resP_len]; exact hj) (fun q hq => h q (List.mem_cons_of_mem _ hq)), resP_keep hj (h p (by simp)) h2]
/-- What has a side of its own, or is a figure, keeps it behind the rules for figures. -/
theorem res_keep {l cls : List Int} {bf af lvl : Int} {r : List Nat} {k : Nat} (hk : k < r.length) (h1 : fn (weakL (pickL r cls) bf) k ≠ 13) (h2 : fn (pickL r cls) k ≠ 9) (h3 : noP (fn (weakL (pickL r cls) bf) k) = false) : fn (resF l cls bf af lvl r) k = fn (weakL (pickL r cls) bf) k := by
  have hl : (weakL (pickL r cls) bf).length = r.length := by rw [weakL_len, pickL_len]
  have hkeep : fn (resTo (fn (pickL r cls)) r.length (ownOf lvl) bf (weakL (pickL r cls) bf) (srtB (stB (fn (pickL r l)) (fn (weakL (pickL r cls) bf)) mate r.length).2)) k = fn (weakL (pickL r cls) bf) k := by
    refine resTo_keep h2 _ _ (by omega) (fun p hp => ?_)
    have := (st_on (fn (pickL r l)) (fn (weakL (pickL r cls) bf)) mate r.length).2 p ((srt_perm _).mem_iff.1 hp)
    exact ⟨fun e => h1 (by rw [e]; exact this.1), fun e => h1 (by rw [e]; exact this.2)⟩
  unfold resF
  rw [fn_plainL (by rw [resTo_len]; omega)]
  unfold plainAt
  rw [hkeep, h3, if_neg (by simp)]
/-- Figures stay figures, or count as from the left. -/
theorem weak_fig {l : List Int} {b : Int} (hb : b = 1 ∨ b = 2) (hl : ∀ j, j < l.length → 1 ≤ fn l j ∧ fn l j ≤ 22) {k : Nat} (hk : k < l.length) : (fn l k = 4 → fn (weakL l b) k = 4 ∨ fn (weakL l b) k = 7 ∨ fn (weakL l b) k = 1) ∧ (fn l k = 7 → fn (weakL l b) k = 7) := by
  have e1 : fn (r1 l b) k = m1 (fn l) b k := fn_mkL hk
  have e2 : fn (r2 (r1 l b) b) k = m2 (fn (r1 l b)) b k := fn_mkL (by rw [r1_len]; exact hk)
  have e3 : fn (r3 (r2 (r1 l b) b)) k = m3 (fn (r2 (r1 l b) b)) k := fn_mkL (by rw [r2_len, r1_len]; exact hk)
  have e4 : fn (r4 (r3 (r2 (r1 l b) b))) k = m4 (fn (r3 (r2 (r1 l b) b))) _ k := fn_mkL (by rw [r3_len, r2_len, r1_len]; exact hk)
  have e5 : fn (r5 (r4 (r3 (r2 (r1 l b) b)))) k = m5 (fn (r4 (r3 (r2 (r1 l b) b)))) _ k := fn_mkL (by rw [r4_len, r3_len, r2_len, r1_len]; exact hk)
  have e6 : fn (r6 (r5 (r4 (r3 (r2 (r1 l b) b))))) k = m6 (fn (r5 (r4 (r3 (r2 (r1 l b) b))))) k := fn_mkL (by rw [r5_len, r4_len, r3_len, r2_len, r1_len]; exact hk)
  have e7 : fn (weakL l b) k = m7 (fn (r6 (r5 (r4 (r3 (r2 (r1 l b) b)))))) b k := fn_mkL (by rw [r6_len, r5_len, r4_len, r3_len, r2_len, r1_len]; exact hk)
  have c1 : fn l k ≠ 9 → m1 (fn l) b k = fn l k := m1_keep
  have a4 := m4_is (z := fn (r3 (r2 (r1 l b) b))) (n := (r3 (r2 (r1 l b) b)).length) (k := k)
  rw [← e1] at c1
  rw [← e4] at a4
  unfold m2 at e2
  unfold m3 at e3
  unfold m5 at e5
  unfold m6 at e6
  unfold m7 at e7
  generalize fn (weakL l b) k = x at *
  generalize fn (r6 (r5 (r4 (r3 (r2 (r1 l b) b))))) k = x6 at *
  generalize fn (r5 (r4 (r3 (r2 (r1 l b) b)))) k = x5 at *
  generalize fn (r4 (r3 (r2 (r1 l b) b))) k = x4 at *
  generalize fn (r3 (r2 (r1 l b) b)) k = x3 at *
  generalize fn (r2 (r1 l b) b) k = x2 at *
  generalize fn (r1 l b) k = x1 at *
  generalize fn l k = x0 at *
  clear e1 e4
  have f2 : x2 = x1 ∨ (x1 = 4 ∧ x2 = 7) := by
    split at e2
    · rename_i h; exact .inr ⟨h.1, e2⟩
    · exact .inl e2
  have f3 : (x2 = 3 ∧ x3 = 2) ∨ (x2 ≠ 3 ∧ x3 = x2) := by
    split at e3
    · rename_i h; exact .inl ⟨h, e3⟩
    · rename_i h; exact .inr ⟨h, e3⟩
  have f5 : x5 = x4 ∨ (x4 = 6 ∧ x5 = 4) := by
    split at e5
    · rename_i h; exact .inr ⟨h.1, e5⟩
    · exact .inl e5
  have f6 : ((x5 = 5 ∨ x5 = 6 ∨ x5 = 8) ∧ x6 = 13) ∨ (¬ (x5 = 5 ∨ x5 = 6 ∨ x5 = 8) ∧ x6 = x5) := by
    split at e6
    · rename_i h; exact .inl ⟨h, e6⟩
    · rename_i h; exact .inr ⟨h, e6⟩
  have f7 : x = x6 ∨ (x6 = 4 ∧ x = 1) := by
    split at e7
    · rename_i h; exact .inr ⟨h.1, e7⟩
    · exact .inl e7
  clear e2 e3 e5 e6 e7
  exact ⟨fun h => by have := c1 (by omega); omega, fun h => by have := c1 (by omega); omega⟩
/-- The level that a run's letter gets. -/
theorem putTo_at {Z : List Int} {r : List Nat} {lvl : Int} {x : Nat → Int} (hnd : r.Nodup) {k : Nat} (hk : k < r.length) (hz : r[k] < Z.length) {m : Nat} (hm : m ≤ r.length) (hkm : k < m) : fn (putTo Z r lvl x m) r[k] = lvl + moreF lvl (x k) := by
  induction m with
  | zero => omega
  | succ m ih =>
    simp only [putTo]
    have hml : m < r.length := by omega
    rw [show r.getD m 0 = r[m] by simp [hml]]
    by_cases e : k = m
    · subst e; rw [fn_set_same (by rw [putTo_len]; exact hz)]
    · have hne : r[m] ≠ r[k] := by
        have := List.pairwise_iff_getElem.1 hnd k m hk hml (by omega)
        exact fun h => this h.symm
      rw [fn_set_other hne, ih (by omega) (by omega)]
theorem lvsTo_keep {c : Nat → Int} {l L C : List Int} {n : Nat} {mt : Nat → Nat} {base : Int} {R : List (List Nat)} {x q : Nat} (h : ∀ i, q < i → (hi : i < R.length) → x ∉ R[i]) : ∀ p, q < p → p ≤ R.length → fn (lvsTo c l L C n mt base R p) x = fn (lvsTo c l L C n mt base R (q + 1)) x := by
  intro p
  induction p with
  | zero => intro hp; omega
  | succ p ih =>
    intro h1 h2
    by_cases e : p = q
    · subst e; rfl
    · have hp : p < R.length := by omega
      have hx := h p (by omega) hp
      have hg : R.getD p [] = R[p] := by simp [hp]
      show fn (putTo _ (R.getD p []) _ _ _) x = _
      rw [hg, putTo_other, ih (by omega) (by omega)]
      intro i hi e
      exact hx (by rw [← e, show R[p].getD i 0 = R[p][i] by simp [hi]]; exact List.getElem_mem _)
theorem flat_two {R : List (List Nat)} (h : R.flatten.Nodup) {q i x : Nat} (hq : q < R.length) (hi : i < R.length) (hqi : q < i) (h1 : x ∈ R[q]) : x ∉ R[i] := by
  intro h2
  have htk : R.flatten = (R.take i).flatten ++ (R.drop i).flatten := by rw [← List.flatten_append, List.take_append_drop]
  rw [htk, List.nodup_append] at h
  refine h.2.2 x (List.mem_flatten.2 ⟨R[q], ?_, h1⟩) x (List.mem_flatten.2 ⟨R[i], ?_, h2⟩) rfl
  · rw [List.mem_iff_getElem]; exact ⟨q, by simp; omega, by simp⟩
  · rw [List.drop_eq_getElem_cons hi]; exact List.mem_cons_self
theorem flat_nd {R : List (List Nat)} (h : R.flatten.Nodup) {q : Nat} (hq : q < R.length) : R[q].Nodup := by
  have htk : R.flatten = (R.take q).flatten ++ (R[q] ++ (R.drop (q + 1)).flatten) := by
    rw [← List.flatten_cons, ← List.flatten_append]
    congr 1
    rw [← List.drop_eq_getElem_cons hq, List.take_append_drop]
  rw [htk, List.nodup_append] at h
  have h2 := h.2.1
  rw [List.nodup_append] at h2
  exact h2.1
/-- The facts of a text whose levels are told. -/
structure LevTxt (l : List Int) (mt : Nat → Nat) (base : Int) (n : Nat) : Prop where
  hn : l.length = n
  b01 : 0 ≤ base ∧ base ≤ 1
  ok : okF (fn l) n = true
  h80 : n ≤ 80
  txt : Txt (cl l) (fn (lvL (cl l) (fsF (cl l) mt) base n)) n mt
theorem levTxt {l : List Int} {mt : Nat → Nat} {base : Int} (h : okT l base = true) (hmt : MateFn (cl l) l.length mt) : LevTxt l mt base l.length := by
  obtain ⟨h1, h2, h3⟩ := okT_out h
  exact ⟨rfl, h2, h1, h3, txt_told l mt h2 hmt⟩
theorem levF_at {l : List Int} {mt : Nat → Nat} {base : Int} {n : Nat} (h : LevTxt l mt base n) {j : Nat} (hj : j < n) (hs : 0 ≤ fn (lvL (cl l) (fsF (cl l) mt) base n) j) :
    ∃ r, ∃ k, ∃ hk : k < r.length, r[k] = j ∧ (∀ m, r.length = m + 1 → RunOk l (clL (cl l) (fsF (cl l) mt) base n) n m (fn (lvL (cl l) (fsF (cl l) mt) base n) j) r) ∧ fn (levsF l mt base) j = fn (lvL (cl l) (fsF (cl l) mt) base n) j + moreF (fn (lvL (cl l) (fsF (cl l) mt) base n) j) (fn (runL (cl l) l (lvL (cl l) (fsF (cl l) mt) base n) (clL (cl l) (fsF (cl l) mt) base n) n mt base r) k) ∧ fn (lvL (cl l) (fsF (cl l) mt) base n) (r.headD 0) = fn (lvL (cl l) (fsF (cl l) mt) base n) j := by
  have hR := runs_okk (mt := mt) h.hn h.b01 h.ok h.h80 h.txt
  have hmem := (runs_mem h.txt j).2 ⟨hj, hs⟩
  unfold levsF
  rw [h.hn]
  have hLl := lvL_len (cl l) (fsF (cl l) mt) base n
  generalize lvL (cl l) (fsF (cl l) mt) base n = L at *
  generalize clL (cl l) (fsF (cl l) mt) base n = C at *
  generalize runsTo (cl l) (fn L) n mt n = R at *
  obtain ⟨r, hr, hjr⟩ := List.mem_flatten.1 hmem
  obtain ⟨q, hq, e⟩ := List.mem_iff_getElem.1 hr
  obtain ⟨k, hk, e2⟩ := List.mem_iff_getElem.1 hjr
  have hlv : fn L (r.headD 0) = fn L j := (hR.lv r hr j hjr).symm
  refine ⟨r, k, hk, e2, fun m hm => by have := hR.ok r hr m hm; rwa [hlv] at this, ?_, hlv⟩
  rw [lvsTo_keep (q := q) (fun i hi hil => flat_two hR.nod hq hil hi (by rw [e]; exact hjr)) R.length hq (Nat.le_refl _)]
  simp only [lvsTo]
  rw [show R.getD q [] = r by rw [← e]; simp [hq]]
  have hnd := flat_nd hR.nod hq
  rw [e] at hnd
  rw [show fn (putTo (lvsTo (cl l) l L C n mt base R q) r (fn L (r.headD 0)) (fn (runL (cl l) l L C n mt base r)) r.length) j = fn (putTo (lvsTo (cl l) l L C n mt base R q) r (fn L (r.headD 0)) (fn (runL (cl l) l L C n mt base r)) r.length) r[k] by rw [e2], putTo_at hnd hk (by rw [lvsTo_len, hLl, e2]; exact hj) (Nat.le_refl _) hk, hlv]
theorem levF_no {l : List Int} {mt : Nat → Nat} {base : Int} {n : Nat} (h : LevTxt l mt base n) {j : Nat} (hj : j < n) (hs : fn (lvL (cl l) (fsF (cl l) mt) base n) j < 0) : fn (levsF l mt base) j = fn (lvL (cl l) (fsF (cl l) mt) base n) j := by
  have hmem : j ∉ (runsTo (cl l) (fn (lvL (cl l) (fsF (cl l) mt) base n)) n mt n).flatten := fun e => by have := ((runs_mem h.txt j).1 e).2; omega
  unfold levsF
  rw [h.hn]
  refine lvsTo_other (Nat.le_refl _) ?_
  rw [List.take_of_length_le (Nat.le_refl _)]
  exact hmem
theorem moreF_bd (lv c : Int) : 0 ≤ moreF lv c ∧ moreF lv c ≤ 2 := by unfold moreF; repeat' split <;> omega
end Go.Proofs.YtgojdlbidjnmmabGreat
