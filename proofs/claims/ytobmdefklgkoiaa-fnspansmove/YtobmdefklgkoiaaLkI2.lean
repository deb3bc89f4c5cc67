import Derived.Test.YtobmdefklgkoiaaLkI
namespace Go.Proofs.Ytobmdefklgkoiaa
open Go.ChangeShapes Go.WideShapes Go.ChangeAt Go.RowKit
set_option linter.unusedSimpArgs false

theorem OwnL.below' {w w' : World} {v : Value} {l : List Int} {B n : Nat} (h : OwnL w B v n l) (hb : Below w.heap.size w w') : OwnL w' B v n l := h.below hb
/-- Runs that can be read. -/
def ArgK (w : World) (v : Value) (R : Runs) : Prop :=
  (∃ a cap, v = .slice a 0 cap ∧ R = []) ∨ ∃ b cap, v = .slice (some ⟨b, 0, none⟩) R.length cap ∧ b < w.heap.size ∧ R.length ≤ cap ∧ cap ≤ maxLen ∧ ∀ j, j < R.length * 3 → w.cell? ⟨b, j, none⟩ = some (.int .i64 (fn (flatL R) j))
theorem OwnL.argK {w : World} {v : Value} {R : Runs} {B : Nat} (h : OwnL w B v R.length (flatL R)) : ArgK w v R := by
  rcases h.forms with ⟨rfl, e⟩ | ⟨g, cap, rfl, _, h2, h3, h4⟩
  · exact .inl ⟨none, 0, rfl, List.length_eq_zero_iff.1 e⟩
  · exact .inr ⟨g, cap, rfl, h2, h3, h4, fun j hj => h.cell j hj⟩
theorem ArgK.kept {w w' : World} {v : Value} {R : Runs} {row : Option Nat} (h : ArgK w v R) (hg : w.grownBy w' row) (hne : ∀ b cap, v = .slice (some ⟨b, 0, none⟩) R.length cap → row ≠ some b) : ArgK w' v R := by
  rcases h with h | ⟨b, cap, rfl, h1, h2, h3, h4⟩
  · exact .inl h
  · exact .inr ⟨b, cap, rfl, Nat.lt_of_lt_of_le h1 hg.size, h2, h3, fun j hj => (World.cell?_of_block (a := ⟨b, j, none⟩) (hg.block b h1 (fun e => hne b cap rfl e.symm))).trans (h4 j hj)⟩
theorem part_snoc (o : Runs) : ∀ (b : Nat) (l : Runs) (a : Int × Int) (n f t : Nat), partR b l (o ++ [(a, n)]) f t = withR (partR b l o f t) a (min (b + cntR o + n) t - max (b + cntR o) f) := by
  induction o with
  | nil => intro b l a n f t; simp [partR, cntR]
  | cons x r ih =>
    obtain ⟨c, m⟩ := x
    intro b l a n f t
    simp only [List.cons_append, partR, cntR]
    rw [ih, show b + m + cntR r = b + (m + cntR r) by omega]
theorem part_cnt (o : Runs) : ∀ (b : Nat) (l : Runs) (f t : Nat), cntR (partR b l o f t) ≤ cntR l + cntR o := by
  induction o with
  | nil => intro b l f t; simp [partR, cntR]
  | cons x r ih =>
    obtain ⟨c, m⟩ := x
    intro b l f t
    simp only [partR, cntR]
    have := ih (b + m) (withR l c (min (b + m) t - max b f)) f t
    rw [cnt_with] at this
    omega
theorem part_len (o : Runs) : ∀ (b : Nat) (l : Runs) (f t : Nat), (partR b l o f t).length ≤ l.length + o.length := by
  induction o with
  | nil => intro b l f t; simp [partR]
  | cons x r ih =>
    obtain ⟨c, m⟩ := x
    intro b l f t
    simp only [partR, List.length_cons]
    have := ih (b + m) (withR l c (min (b + m) t - max b f)) f t
    have := with_len l c (min (b + m) t - max b f)
    omega
theorem cnt_pre {p q : Runs} : cntR p ≤ cntR (p ++ q) := by rw [cnt_app]; omega

theorem with_at (B : Nat) (v : Value) (R : Runs) (a b : Int) (k : Int) (j : Nat) (w : World) (hj : k.toNat = j) (h : OwnL w B v R.length (flatL R)) (hB : B ≤ w.heap.size) (hl : R.length ≤ 1000) (hc : cntR R ≤ 1000000) (hk : k ≤ 1000000) :
    Calls Try.prog 41 #[v, .agg #[.int .i64 a, .int .i64 b], .int .i64 k] w fun e w' => ∃ v', e = .returned v' ∧ OwnL w' B v' (withR R (a, b) j).length (flatL (withR R (a, b) j)) ∧ w.grownBy w' v.ownBlock := by
  rw [← hj]; exact with_is B v R a b k w h hB hl hc hk

set_option maxHeartbeats 2000000 in
theorem part_is (B : Nat) (v u : Value) (R O : Runs) (f t : Nat) (w : World) (h : OwnL w B v R.length (flatL R)) (hu : ArgK w u O) (hap : ∀ b cap, u = .slice (some ⟨b, 0, none⟩) O.length cap → b < B) (hB : B ≤ w.heap.size) (hl : R.length + O.length ≤ 900) (hc : cntR R + cntR O ≤ 1000000) (hf : f ≤ 1000) (ht : t ≤ 1000) :
    Calls Try.prog 40 #[v, u, .int .i64 (f : Int), .int .i64 (t : Int)] w fun e w' => ∃ v', e = .returned v' ∧ OwnL w' B v' (partR 0 R O f t).length (flatL (partR 0 R O f t)) ∧ Below B w w' := by
  rcases hu with ⟨a, cap, rfl, rfl⟩ | ⟨b, cap, rfl, hb, hb2, hb3, hat⟩
  · go_enter Try.func40, Try.ntmps40
    go_wp2_with fail
    go_rounds 1
    go_ret
    exact ⟨_, rfl, h, Below.refl _ _⟩
  · have hbB := hap b cap rfl
    obtain ⟨N, hN⟩ : ∃ N, O.length = N := ⟨_, rfl⟩
    have HNN : Hid _ := hN
    rw [hN] at hb2 hat hl ⊢
    have HAT : Hid _ := hat
    clear hat hap hN
    go_enter Try.func40, Try.ntmps40
    go_wp2_with fail
    go_loopw [0, 9, 15] (fun q p i wr => ∃ (pre rest : Runs), O = pre ++ rest ∧ p = .int .i64 (cntR pre : Int) ∧ i = .int .i64 (pre.length : Int) ∧ OwnL wr B q (partR 0 R pre f t).length (flatL (partR 0 R pre f t)) ∧ Below B w wr) (fun _ _ i _ => N - (intOf i).toNat)
    case atStart => exact ⟨[], O, rfl, rfl, rfl, h, Below.refl _ _⟩
    case round =>
      obtain ⟨pre, rest, hx, rfl, rfl, hown, hbel⟩ := hrel
      cases rest with
      | nil =>
        have hlen : ¬ ((pre.length : Int) < (N : Int)) := by rw [← HNN.out, hx]; simp
        have HX : Hid _ := hx
        clear hx
        go_wp2_with fail
        go_ret
        refine ⟨_, rfl, ?_, hbel⟩
        rw [show partR 0 R O f t = partR 0 R pre f t by rw [HX.out, List.append_nil]]
        exact hown
      | cons x rest =>
        obtain ⟨⟨s, m⟩, k⟩ := x
        have hlt0 : pre.length < O.length := by rw [hx]; simp
        have hlt : pre.length < N := by rw [← HNN.out]; exact hlt0
        have hi : (pre.length : Int) < (N : Int) := by omega
        obtain ⟨e0, e1, e2⟩ := fn_flatL O pre.length hlt0
        have ex : O[pre.length] = ((s, m), k) := by simp [hx]
        rw [ex] at e0 e1 e2
        have c0 := (hbel.cell (p := ⟨b, pre.length * 3, none⟩) hbB).trans (HAT.out _ (by omega))
        have c1 := (hbel.cell (p := ⟨b, pre.length * 3 + 1, none⟩) hbB).trans (HAT.out _ (by omega))
        have c2 := (hbel.cell (p := ⟨b, pre.length * 3 + 2, none⟩) hbB).trans (HAT.out _ (by omega))
        rw [e0] at c0
        rw [e1] at c1
        rw [e2] at c2
        have hcn : cntR O = cntR pre + (k + cntR rest) := by rw [hx, cnt_app]; rfl
        have hln : N = pre.length + (rest.length + 1) := by rw [← HNN.out, hx]; simp
        have hp1 := part_len pre 0 R f t
        have hp2 := part_cnt pre 0 R f t
        have hsz := hbel.size
        have hk1 : (cntR pre : Int) + (k : Int) ≤ 1000000 := by omega
        have HE : Hid (∀ (q : Value) (u : World), OwnL u B q (withR (partR 0 R pre f t) (s, m) (min (cntR pre + k) t - max (cntR pre) f)).length (flatL (withR (partR 0 R pre f t) (s, m) (min (cntR pre + k) t - max (cntR pre) f))) → Below B w u → ∃ (pre1 rest1 : Runs), O = pre1 ++ rest1 ∧ Value.int .i64 ((cntR pre : Int) + (k : Int)) = .int .i64 (cntR pre1 : Int) ∧ Value.int .i64 ((pre.length : Int) + 1) = .int .i64 (pre1.length : Int) ∧ OwnL u B q (partR 0 R pre1 f t).length (flatL (partR 0 R pre1 f t)) ∧ Below B w u) := fun q u h1 h2 =>
          ⟨pre ++ [((s, m), k)], rest, by rw [hx]; simp, by rw [cnt_app]; simp [cntR], by simp, by rw [part_snoc, Nat.zero_add]; exact h1, h2⟩
        clear e0 e1 e2 ex
        have hmm : (partR 0 R pre f t).length ≤ 1000 := by omega
        have hcc : cntR (partR 0 R pre f t) ≤ 1000000 := by omega
        have HMM : Hid _ := hmm
        have HCC : Hid _ := hcc
        have HBE : Hid _ := hbel
        have HOW : Hid _ := hown
        have HBS : Hid (B ≤ wr.heap.size) := Nat.le_trans hB hsz
        have HLN : Hid _ := hln
        have HX : Hid _ := hx
        clear hmm hcc hp1 hp2 hown hbel hcn hln hx hlt0
        rcases (show cntR pre + k ≤ t ∨ t < cntR pre + k by omega) with q1 | q1
        · rcases (show f ≤ cntR pre ∨ cntR pre < f by omega) with q2 | q2
          · have z1 : ((cntR pre : Int) + (k : Int)) ≤ (t : Int) := by omega
            have z2 : (f : Int) ≤ (cntR pre : Int) := by omega
            go_wp2_with fail
            refine (with_at B _ (partR 0 R pre f t) s m _ (min (cntR pre + k) t - max (cntR pre) f) _ (by omega) (OwnL.alloc HOW.out _) (by have := HBS.out; simp; omega) HMM.out HCC.out (by omega)).mono ?_
            rintro e w3 ⟨v3, rfl, hown3, hg3⟩
            have hb3 : Below B w w3 := HBE.out.trans (((Below.refl B wr).alloc HBS.out _).grown hg3 (by have := HBS.out; simp; omega) (fun q hq => (HOW.out.lt q hq).1))
            go_wp2_with fail
            exact ⟨HE.out _ _ hown3 hb3, by have := HLN.out; simp only [intOf]; omega⟩
          · have z1 : ((cntR pre : Int) + (k : Int)) ≤ (t : Int) := by omega
            have z2 : (cntR pre : Int) < (f : Int) := by omega
            go_wp2_with fail
            refine (with_at B _ (partR 0 R pre f t) s m _ (min (cntR pre + k) t - max (cntR pre) f) _ (by omega) (OwnL.alloc HOW.out _) (by have := HBS.out; simp; omega) HMM.out HCC.out (by omega)).mono ?_
            rintro e w3 ⟨v3, rfl, hown3, hg3⟩
            have hb3 : Below B w w3 := HBE.out.trans (((Below.refl B wr).alloc HBS.out _).grown hg3 (by have := HBS.out; simp; omega) (fun q hq => (HOW.out.lt q hq).1))
            go_wp2_with fail
            exact ⟨HE.out _ _ hown3 hb3, by have := HLN.out; simp only [intOf]; omega⟩
        · rcases (show f ≤ cntR pre ∨ cntR pre < f by omega) with q2 | q2
          · have z1 : (t : Int) < ((cntR pre : Int) + (k : Int)) := by omega
            have z2 : (f : Int) ≤ (cntR pre : Int) := by omega
            go_wp2_with fail
            refine (with_at B _ (partR 0 R pre f t) s m _ (min (cntR pre + k) t - max (cntR pre) f) _ (by omega) (OwnL.alloc HOW.out _) (by have := HBS.out; simp; omega) HMM.out HCC.out (by omega)).mono ?_
            rintro e w3 ⟨v3, rfl, hown3, hg3⟩
            have hb3 : Below B w w3 := HBE.out.trans (((Below.refl B wr).alloc HBS.out _).grown hg3 (by have := HBS.out; simp; omega) (fun q hq => (HOW.out.lt q hq).1))
            go_wp2_with fail
            exact ⟨HE.out _ _ hown3 hb3, by have := HLN.out; simp only [intOf]; omega⟩
          · have z1 : (t : Int) < ((cntR pre : Int) + (k : Int)) := by omega
            have z2 : (cntR pre : Int) < (f : Int) := by omega
            go_wp2_with fail
            refine (with_at B _ (partR 0 R pre f t) s m _ (min (cntR pre + k) t - max (cntR pre) f) _ (by omega) (OwnL.alloc HOW.out _) (by have := HBS.out; simp; omega) HMM.out HCC.out (by omega)).mono ?_
            rintro e w3 ⟨v3, rfl, hown3, hg3⟩
            have hb3 : Below B w w3 := HBE.out.trans (((Below.refl B wr).alloc HBS.out _).grown hg3 (by have := HBS.out; simp; omega) (fun q hq => (HOW.out.lt q hq).1))
            go_wp2_with fail
            exact ⟨HE.out _ _ hown3 hb3, by have := HLN.out; simp only [intOf]; omega⟩
end Go.Proofs.Ytobmdefklgkoiaa
