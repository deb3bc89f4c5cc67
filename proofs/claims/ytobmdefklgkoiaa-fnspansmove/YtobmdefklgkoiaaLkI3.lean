import Derived.Test.YtobmdefklgkoiaaLkI2
import Derived.Test.YtobmdefklgkoiaaSpanRow
import Derived.Deep.RegionHeld3
namespace Go.Proofs.Ytobmdefklgkoiaa
open Go.ChangeShapes Go.WideShapes Go.ChangeAt Go.RowKit
set_option linter.unusedSimpArgs false
set_option linter.unusedVariables false

theorem OwnL.bel {w w' : World} {v : Value} {l : List Int} {B n : Nat} (h : OwnL w B v n l) (hb : Below w.heap.size w w') : OwnL w' B v n l := h.below hb
theorem lk_len (z : Nat → Int) (k : Nat) : (lkR z k).length ≤ 2 * k := by
  induction k with
  | zero => exact Nat.le_refl _
  | succ k ih =>
    simp only [lkR]
    have := with_len (withR (lkR z k) (10, 0) (z (k * 4) - enS z k).toNat) (z (k * 4 + 2), z (k * 4 + 3)) (z (k * 4 + 1) - z (k * 4)).toNat
    have := with_len (lkR z k) (10, 0) (z (k * 4) - enS z k).toNat
    omega
theorem lk_cnt {z : Nat → Int} {n : Nat} {c : Int} (h : spansOk z n c = true) {k : Nat} (hk : k ≤ n) : (cntR (lkR z k) : Int) = enS z k := by
  rw [← cnt_len, expand_lk h k hk, looksS_len]
  have := end_nn h k hk
  omega
theorem looks_cnt {z : Nat → Int} {n : Nat} {c : Int} (h : spansOk z n c = true) : (cntR (looksR z n c) : Int) = c := by
  rw [← cnt_len, expand_looks h, looksS_len]
  have := (spansOk_out h).1
  omega

def At4 (w : World) (G : Nat) (f t s m : Int) : Prop := w.cell? ⟨G, 0, none⟩ = some (.int .i64 f) ∧ w.cell? ⟨G, 1, none⟩ = some (.int .i64 t) ∧ w.cell? ⟨G, 2, none⟩ = some (.int .i64 s) ∧ w.cell? ⟨G, 3, none⟩ = some (.int .i64 m) ∧ w.heap[G]? = some (.cells #[.int .i64 f, .int .i64 t, .int .i64 s, .int .i64 m] 32 (0, 0))
theorem At4.below {w w' : World} {G : Nat} {f t s m : Int} (h : At4 w G f t s m) (hG : G < w.heap.size) (hb : Below w.heap.size w w') : At4 w' G f t s m :=
  ⟨(hb.cell (p := ⟨G, 0, none⟩) hG).trans h.1, (hb.cell (p := ⟨G, 1, none⟩) hG).trans h.2.1, (hb.cell (p := ⟨G, 2, none⟩) hG).trans h.2.2.1, (hb.cell (p := ⟨G, 3, none⟩) hG).trans h.2.2.2.1, (hb.block G hG).trans h.2.2.2.2⟩
theorem At4.ne {w : World} {G : Nat} {f t s m : Int} {v : Value} {l : List Int} {B n : Nat} (h : At4 w G f t s m) (ho : OwnL w B v n l) : ∀ j, v.ownBlock = some j → j ≠ G := by
  intro j hj e
  subst e
  rcases ho.2 with ⟨rfl, _⟩ | ⟨g, cap, cur, rfl, _, h3, _⟩
  · cases hj
  · have e : g = j := by simpa [Value.ownBlock] using hj
    subst e
    rw [h.2.2.2.2] at h3
    simp at h3
theorem At4.grown {w w' : World} {G : Nat} {f t s m : Int} {row : Option Nat} (h : At4 w G f t s m) (hG : G < w.heap.size) (hb : w.grownBy w' row) (hne : some G ≠ row) : At4 w' G f t s m := by
  have e : ∀ j, w'.cell? ⟨G, j, none⟩ = w.cell? ⟨G, j, none⟩ := fun j => World.cell?_of_block (a := ⟨G, j, none⟩) (hb.block G hG hne)
  exact ⟨(e 0).trans h.1, (e 1).trans h.2.1, (e 2).trans h.2.2.1, (e 3).trans h.2.2.2.1, (hb.block G hG hne).trans h.2.2.2.2⟩
theorem lookBase4 (G : Nat) (f t s m : Int) (u : World) (hG : G < u.heap.size) (h : At4 u G f t s m) :
    Calls Try.prog 49 #[] u fun e w' => e = .returned (.agg #[.int .i64 10, .int .i64 0]) ∧ Below u.heap.size u w' ∧ At4 w' G f t s m :=
  (lookBase_is u).mono fun _ w' ⟨h1, h2⟩ => ⟨h1, h2, h.below hG h2⟩
theorem lookBase4d (G : Nat) (f t s m : Int) (u : World) (hG : G < u.heap.size) (h : At4 u G f t s m) :
    Calls Try.prog 49 #[] u.drew fun e w' => e = .returned (.agg #[.int .i64 10, .int .i64 0]) ∧ Below u.heap.size u w' ∧ At4 w' G f t s m :=
  (lookBase_is u.drew).mono fun _ w' ⟨h1, h2⟩ => ⟨h1, (below_draws u 1).trans h2, At4.below (w := u.drew) h hG h2⟩
theorem look4 (a b c d : Int) (G : Nat) (f t s m : Int) (u : World) (hG : G < u.heap.size) (h : At4 u G f t s m) :
    Calls Try.prog 42 #[.agg #[.int .i64 a, .int .i64 b, .int .i64 c, .int .i64 d]] u fun e w' => e = .returned (.agg #[.int .i64 c, .int .i64 d]) ∧ Below u.heap.size u w' ∧ At4 w' G f t s m :=
  (look_is a b c d u).mono fun _ w' ⟨h1, h2⟩ => ⟨h1, h2, h.below hG h2⟩
theorem with4 (B : Nat) (v : Value) (R : Runs) (a b : Int) (k : Int) (j : Nat) (G : Nat) (f t s m : Int) (w : World) (hj : k.toNat = j) (h : OwnL w B v R.length (flatL R)) (hB : B ≤ w.heap.size) (hl : R.length ≤ 1000) (hc : cntR R ≤ 1000000) (hk : k ≤ 1000000) (hG : G < w.heap.size) (h4 : At4 w G f t s m) (hne : ∀ j, v.ownBlock = some j → j ≠ G) :
    Calls Try.prog 41 #[v, .agg #[.int .i64 a, .int .i64 b], .int .i64 k] w fun e w' => ∃ v', e = .returned v' ∧ OwnL w' B v' (withR R (a, b) j).length (flatL (withR R (a, b) j)) ∧ w.grownBy w' v.ownBlock ∧ At4 w' G f t s m :=
  (with_at B v R a b k j w hj h hB hl hc hk).mono fun _ w' ⟨v', h1, h2, h3⟩ => ⟨v', h1, h2, h3, h4.grown hG h3 (fun e => hne G e.symm rfl)⟩

set_option maxHeartbeats 2000000 in
theorem looksOf_is (v : Value) (n : Nat) (l : List Int) (c : Int) (w : World) (hv : ArgS w v n l) (hok : spansOk (fn l) n c = true) :
    Calls Try.prog 33 #[v, .int .i64 c] w fun e w' => ∃ v', e = .returned v' ∧ OwnL w' w.heap.size v' (looksR (fn l) n c).length (flatL (looksR (fn l) n c)) ∧ Below w.heap.size w w' := by
  obtain ⟨⟨hc0, hc1, hn⟩, hrows⟩ := spansOk_out hok
  rcases hv with ⟨a, cap, rfl, rfl⟩ | ⟨b, cap, rfl, hb, hlc, hcm, hat⟩
  · have HC : Hid (0 ≤ c ∧ c ≤ 80) := ⟨hc0, hc1⟩
    clear hrows
    go_enter Try.func33, Try.ntmps33
    go_wp2_with fail
    go_loopw [5, 6, 11] (fun q p i wr => q = .slice none 0 0 ∧ p = .int .i64 0 ∧ i = .int .i64 0 ∧ wr = w) (fun _ _ _ _ => 0)
    case atStart => exact ⟨rfl, rfl, rfl, rfl⟩
    obtain ⟨rfl, rfl, rfl, hw⟩ := hrel
    rw [hw]
    clear hw
    go_wp2_with fail
    refine (lookBase_is _).mono ?_
    rintro e w1 ⟨rfl, b1⟩
    go_wp2_with fail
    refine (with_at w.heap.size _ [] 10 0 _ c.toNat _ (by first | rfl | rw [Int.sub_zero]) (OwnL.nil _ _) b1.size (by simp) (by simp [cntR]) (by have := HC.out; omega)).mono ?_
    rintro e w2 ⟨v2, rfl, o2, g2⟩
    go_wp2_with fail
    go_ret
    have e : looksR (fn l) 0 c = withR [] (10, 0) c.toNat := by simp [looksR, lkR, enS_zero]
    rw [e]
    exact ⟨_, rfl, o2, b1.grown g2 b1.size (fun k hk => by cases hk)⟩
  · have HAT : Hid _ := hat
    have HOK : Hid _ := hok
    have HROW : Hid _ := hrows
    have HCC : Hid (0 ≤ c ∧ c ≤ 80) := ⟨hc0, hc1⟩
    clear hat hok hrows
    go_enter Try.func33, Try.ntmps33
    go_wp2_with fail
    go_loopw [5, 6, 11] (fun q p i wr => ∃ (k : Nat), k ≤ n ∧ i = .int .i64 (k : Int) ∧ p = .int .i64 (enS (fn l) k) ∧ OwnL wr w.heap.size q (lkR (fn l) k).length (flatL (lkR (fn l) k)) ∧ Below w.heap.size w wr) (fun _ _ i _ => n - (intOf i).toNat)
    case atStart => exact ⟨0, Nat.zero_le _, rfl, by rw [enS_zero], OwnL.nil _ _, Below.refl _ _⟩
    case round =>
      obtain ⟨k, hk, rfl, rfl, hown, hbel⟩ := hrel
      have hll := lk_len (fn l) k
      have hlc2 := lk_cnt HOK.out hk
      have hen := end_nn HOK.out k hk
      have hsz := hbel.size
      obtain ⟨E, hE⟩ : ∃ E, enS (fn l) k = E := ⟨_, rfl⟩
      rw [hE] at hen hlc2 ⊢
      have HLL : Hid ((lkR (fn l) k).length ≤ 24) := by show _ ≤ _; omega
      have HLC : Hid ((cntR (lkR (fn l) k) : Int) = E) := hlc2
      have HOW : Hid _ := hown
      have HBE : Hid _ := hbel
      have HE : Hid _ := hE
      by_cases hlt : k < n
      · have hki : (k : Int) < (n : Int) := by omega
        have hr := rowOk_parts (HROW.out k hlt)
        have hr1 := hr.1
        have hr2 := hr.2
        rw [HE.out] at hr2
        have c0 := (hbel.cell (p := ⟨b, k * 4, none⟩) hb).trans (HAT.out _ (by omega))
        have c1 := (hbel.cell (p := ⟨b, k * 4 + 1, none⟩) hb).trans (HAT.out _ (by omega))
        have c2 := (hbel.cell (p := ⟨b, k * 4 + 2, none⟩) hb).trans (HAT.out _ (by omega))
        have c3 := (hbel.cell (p := ⟨b, k * 4 + 3, none⟩) hb).trans (HAT.out _ (by omega))
        obtain ⟨f, hf⟩ : ∃ f, fn l (k * 4) = f := ⟨_, rfl⟩
        obtain ⟨t, ht⟩ : ∃ t, fn l (k * 4 + 1) = t := ⟨_, rfl⟩
        obtain ⟨s, hs⟩ : ∃ s, fn l (k * 4 + 2) = s := ⟨_, rfl⟩
        obtain ⟨m, hm⟩ : ∃ m, fn l (k * 4 + 3) = m := ⟨_, rfl⟩
        rw [hf] at c0 hr1 hr2
        rw [ht] at c1 hr1
        rw [hs] at c2 hr1
        rw [hm] at c3 hr1
        have HLK : Hid (lkR (fn l) (k + 1) = withR (withR (lkR (fn l) k) (10, 0) (f - E).toNat) (s, m) (t - f).toNat ∧ enS (fn l) (k + 1) = t) := by
          refine ⟨?_, by rw [enS_succ, ht]⟩
          simp only [lkR]
          rw [hf, ht, hs, hm, HE.out]
        clear hf ht hs hm hown hbel hr hll hlc2 hE
        obtain ⟨h1, h2, h3, h4, h5, h6, h7, h8⟩ := hr1
        have HT : Hid (0 ≤ f ∧ f < c ∧ f < t ∧ t ≤ c ∧ E ≤ f ∧ 0 ≤ E) := ⟨h1, h2, h3, h4, hr2, hen.1⟩
        have HKI : Hid (∀ (q : Value) (u : World), OwnL u w.heap.size q (withR (withR (lkR (fn l) k) (10, 0) (f - E).toNat) (s, m) (t - f).toNat).length (flatL (withR (withR (lkR (fn l) k) (10, 0) (f - E).toNat) (s, m) (t - f).toNat)) → Below w.heap.size w u → ∃ (k1 : Nat), k1 ≤ n ∧ Value.int .i64 ((k : Int) + 1) = .int .i64 (k1 : Int) ∧ Value.int .i64 t = .int .i64 (enS (fn l) k1) ∧ OwnL u w.heap.size q (lkR (fn l) k1).length (flatL (lkR (fn l) k1)) ∧ Below w.heap.size w u) := fun q u g1 g2 =>
          ⟨k + 1, hlt, by simp, by rw [HLK.out.2], by rw [HLK.out.1]; exact g1, g2⟩
        go_wp2_with fail
        obtain ⟨U, hU⟩ : ∃ U, wr.alloc (.cells #[.int .i64 f, .int .i64 t, .int .i64 s, .int .i64 m] 32) = U := ⟨_, rfl⟩
        obtain ⟨G, hG⟩ : ∃ G, wr.heap.size = G := ⟨_, rfl⟩
        have H4 : Hid (At4 U G f t s m) := by rw [← hU, ← hG]; exact ⟨by simp, by simp, by simp, by simp, World.alloc_heap_new wr _⟩
        have HGL : Hid (G < U.heap.size) := by show _ < _; rw [← hU, ← hG]; simp
        have HOU : Hid (OwnL U w.heap.size u5 (lkR (fn l) k).length (flatL (lkR (fn l) k))) := by rw [← hU]; exact HOW.out.alloc _
        have HBU : Hid (Below w.heap.size w U) := by rw [← hU]; exact HBE.out.alloc HBE.out.size _
        have HUG : Hid (∀ j, u5.ownBlock = some j → j < G) := fun j hj => by rw [← hG]; exact (HOW.out.lt j hj).2
        rw [hU, hG]
        clear hU hG c0 c1 c2 c3
        obtain ⟨g0, g1, g2, g3, _⟩ := H4.out
        have wr1 : IntKind.i64.wrap (f - E) = f - E := by simp [IntKind.wrap, IntKind.bits, IntKind.signed]; omega
        have wr2 : IntKind.i64.wrap (t - f) = t - f := by simp [IntKind.wrap, IntKind.bits, IntKind.signed]; omega
        go_region_held3 (fun w' => w'.cell? ⟨G, 0, none⟩ = some (.int .i64 f) ∧ w'.cell? ⟨G, 1, none⟩ = some (.int .i64 t) ∧ w'.cell? ⟨G, 2, none⟩ = some (.int .i64 s) ∧ w'.cell? ⟨G, 3, none⟩ = some (.int .i64 m)) (go_keep) (first
          | (go_at_call 41; refine (with4 w.heap.size _ (withR (lkR (fn l) k) (10, 0) (f - E).toNat) s m _ (t - f).toNat G f t s m _ rfl (OwnL.bel o2 b3) (Nat.le_trans s2 b3.size) (by have := HLL.out; have := with_len (lkR (fn l) k) (10, 0) (f - E).toNat; omega) (by rw [cnt_with]; have := HLC.out; have := HT.out; have := HCC.out; omega) (by have := HT.out; have := HCC.out; omega) (Nat.lt_of_lt_of_le gl2 b3.size) (.intro k30 (.intro k31 (.intro k32 (.intro k33 k34)))) (At4.ne (.intro k30 (.intro k31 (.intro k32 (.intro k33 k34)))) (OwnL.bel o2 b3))).mono ?_; rintro e w4 ⟨v4, rfl, o4, r4, k40, k41, k42, k43, k44⟩)
          | (go_at_call 42; refine (look4 _ _ _ _ G f t s m _ gl2 (.intro k20 (.intro k21 (.intro k22 (.intro k23 k24))))).mono ?_; rintro e w3 ⟨rfl, b3, k30, k31, k32, k33, k34⟩)
          | (go_at_call 41; refine (with4 w.heap.size _ (lkR (fn l) k) 10 0 _ (f - E).toNat G f t s m _ rfl (OwnL.bel HOU.out b1) (Nat.le_trans HBU.out.size b1.size) (by have := HLL.out; omega) (by have := HLC.out; have := HT.out; have := HCC.out; omega) (by have := HT.out; have := HCC.out; omega) (Nat.lt_of_lt_of_le HGL.out b1.size) (.intro k10 (.intro k11 (.intro k12 (.intro k13 k14)))) (fun j hj => Nat.ne_of_lt (HUG.out j hj))).mono ?_; rintro e w2 ⟨v2, rfl, o2, r2, k20, k21, k22, k23, k24⟩; have gl2 := Nat.lt_of_lt_of_le (Nat.lt_of_lt_of_le HGL.out b1.size) r2.size; have s2 := Nat.le_trans (Nat.le_trans HBU.out.size b1.size) r2.size)
          | (go_at_call 49; refine (lookBase4d G f t s m _ HGL.out H4.out).mono ?_; rintro e w1 ⟨rfl, b1, k10, k11, k12, k13, k14⟩))
        have B1 := bstep HBU.out b1
        have B2 := B1.grown r2 B1.size (fun q hq => (HOU.out.lt q hq).1)
        have B3 := bstep B2 b3
        have B4 := B3.grown r4 B3.size (fun q hq => (o2.lt q hq).1)
        clear b1 r2 b3 k10 k11 k12 k13 k14 k20 k21 k22 k23 k24 k30 k31 k32 k33 k34 wr1 wr2 g0 g1 g2 g3
        go_wp2_with fail
        exact ⟨HKI.out _ _ o4 B4, by simp only [intOf]; omega⟩
      · have e : k = n := by omega
        subst e
        clear hown hbel hll hlc2 hE
        go_wp2_with fail
        refine (lookBase_is _).mono ?_
        rintro e w1 ⟨rfl, b1⟩
        go_wp2_with fail
        refine (with_at w.heap.size _ (lkR (fn l) k) 10 0 _ (c - E).toNat _ rfl (OwnL.bel HOW.out b1) (Nat.le_trans HBE.out.size b1.size) (by have := HLL.out; omega) (by have := HLC.out; omega) (by have := HCC.out; omega)).mono ?_
        rintro e w2 ⟨v2, rfl, o2, g2⟩
        go_wp2_with fail
        go_ret
        refine ⟨_, rfl, ?_, ?_⟩
        · unfold looksR
          rw [HE.out]
          exact o2
        · have b2 := bstep HBE.out b1
          exact b2.grown g2 b2.size (fun q hq => ((OwnL.bel HOW.out b1).lt q hq).1)
end Go.Proofs.Ytobmdefklgkoiaa
