import Derived.Laws.BitsAllLaws
import Derived.Test.YtgojdlbidjnmmaaGreatPk13
namespace Go.Proofs.YtgojdlbidjnmmaaGreat
set_option linter.unusedSimpArgs false
set_option linter.unusedVariables false

def SdZ (s : List Tl) : Prop := ∀ x ∈ s, x.side = 0
theorem sz_push {s : TS} (h : SdZ s.st) (right alone : Bool) : SdZ (pushT s right 0 alone).st := by
  unfold pushT
  split
  · intro x hx
    rcases List.mem_cons.1 hx with e | e
    · subst e; rfl
    · exact h x e
  · split
    · exact h
    · split <;> exact h
theorem sz_end {s : TS} (h : SdZ s.st) : SdZ (endT s).st := by
  unfold endT
  split
  · exact h
  · split
    · intro x hx
      obtain ⟨p, hp⟩ := cutA_suffix s.st
      exact h x (by rw [hp]; exact List.mem_append_right _ hx)
    · exact h
theorem sz_drop {s : TS} (h : SdZ s.st) : SdZ (dropT s).st := by
  unfold dropT
  split
  · exact h
  · split
    · exact h
    · rcases dropL_cases s.st with e | ⟨x, y, r, e, _, e2⟩
      · intro z hz
        have hz2 : z ∈ dropL s.st := hz
        rw [e] at hz2; exact h z hz2
      · intro z hz
        have hz2 : z ∈ dropL s.st := hz
        rw [e2] at hz2; exact h z (by rw [e]; exact List.mem_cons_of_mem _ hz2)
theorem sz_step {s : TS} (h : SdZ s.st) {c : Int} (f : Int) (h1 : c ≠ 17) (h2 : c ≠ 18) : SdZ (stepT c f s).st := by
  unfold stepT
  rw [if_neg h1, if_neg h2]
  repeat' split
  all_goals first | exact sz_push h _ _ | exact sz_end h | exact sz_drop h | exact h
theorem sz_told {c fs : Nat → Int} {base : Int} {k : Nat} (h : ∀ j, j < k → c j ≠ 17 ∧ c j ≠ 18) : SdZ (told c fs base k).st := by
  induction k with
  | zero => intro x hx; simp only [told, List.mem_singleton] at hx; subst hx; rfl
  | succ k ih => exact sz_step (ih (fun j hj => h j (by omega))) _ (h k (by omega)).1 (h k (by omega)).2
theorem sz_at {s : TS} (h : SdZ s.st) (c : Int) : SdZ (atT c s).st := by
  unfold atT; split
  · exact sz_end h
  · exact h
/-- Where no side counts for all, a letter keeps its class. -/
theorem clAt_own {c fs : Nat → Int} {base : Int} {k : Nat} (h : ∀ j, j < k → c j ≠ 17 ∧ c j ≠ 18) (ht : tellsB (c k) = false) : clAt c fs base k = c k := by
  have hz := sz_at (sz_told (fs := fs) (base := base) h) (c k)
  unfold clAt clT
  rw [ht, if_neg (by simp)]
  unfold sdT topS
  generalize (atT (c k) (told c fs base k)).st = st at hz ⊢
  match st with
  | [] => simp
  | x :: r =>
    have := hz x (by simp)
    simp [this]
theorem more_even {lv c : Int} (h : lv % 2 = 0) : moreF lv c = if c = 1 then 0 else if c ≠ 2 then 2 else 1 := by
  have ho : ownOf lv = 1 := if_pos h
  unfold moreF
  rw [ho]
  by_cases e : c = 1
  · rw [if_pos e, if_pos e]
  · rw [if_neg e, if_neg e]; simp [h]
theorem more_odd {lv c : Int} (h : lv % 2 = 1) : moreF lv c = if c = 2 then 0 else 1 := by
  have ho : ownOf lv = 2 := if_neg (by omega)
  unfold moreF
  rw [ho]
  by_cases e : c = 2
  · rw [if_pos e, if_pos e]
  · rw [if_neg e, if_neg e]; simp [h]
/-- Each letter lies on a level of its side. -/
theorem side_ok {l : List Int} {mt : Nat → Nat} {base : Int} {n : Nat} (h : LevTxt l mt base n) {j : Nat} (hj : j < n) :
    (fn (lvL (cl l) (fsF (cl l) mt) base n) j < 0 ∧ fn (levsF l mt base) j < 0) ∨ (0 ≤ fn (lvL (cl l) (fsF (cl l) mt) base n) j ∧ base ≤ fn (levsF l mt base) j ∧ fn (lvL (cl l) (fsF (cl l) mt) base n) j ≤ fn (levsF l mt base) j ∧ fn (levsF l mt base) j ≤ fn (lvL (cl l) (fsF (cl l) mt) base n) j + 2 ∧
      ((∀ i, i < n → cl l i ≠ 17 ∧ cl l i ≠ 18) → (cl l j = 2 ∨ cl l j = 3 → fn (levsF l mt base) j % 2 = 1) ∧ (cl l j = 1 ∨ cl l j = 4 ∨ cl l j = 7 → fn (levsF l mt base) j % 2 = 0))) := by
  have hb := lvAt_bd (cl l) (fsF (cl l) mt) h.b01 j
  rw [← fn_lvL (n := n) hj] at hb
  by_cases hs : 0 ≤ fn (lvL (cl l) (fsF (cl l) mt) base n) j
  · right
    have hbb : tellsB (cl l j) = false ∧ base ≤ fn (lvL (cl l) (fsF (cl l) mt) base n) j := by
      rcases hb with ⟨_, q⟩ | ⟨q, q2, _⟩
      · omega
      · exact ⟨q, q2⟩
    obtain ⟨r, k, hk, erk, hrok, e, hhd⟩ := levF_at h hj hs
    have hmb := moreF_bd (fn (lvL (cl l) (fsF (cl l) mt) base n) j) (fn (runL (cl l) l (lvL (cl l) (fsF (cl l) mt) base n) (clL (cl l) (fsF (cl l) mt) base n) n mt base r) k)
    refine ⟨hs, by omega, by omega, by omega, fun hno => ?_⟩
    obtain ⟨m, hm⟩ : ∃ m, r.length = m + 1 := ⟨r.length - 1, by omega⟩
    have hok := hrok m hm
    have hC : fn (clL (cl l) (fsF (cl l) mt) base n) j = cl l j := by rw [fn_clL hj]; exact clAt_own (fun i hi => hno i (by omega)) hbb.1
    have hX : fn (pickL r (clL (cl l) (fsF (cl l) mt) base n)) k = cl l j := by rw [fn_pickL hk, erk, hC]
    have hb12 : sidA (fn (lvL (cl l) (fsF (cl l) mt) base n)) base (fn (lvL (cl l) (fsF (cl l) mt) base n) (r.headD 0)) (r.headD 0) = 1 ∨ sidA (fn (lvL (cl l) (fsF (cl l) mt) base n)) base (fn (lvL (cl l) (fsF (cl l) mt) base n) (r.headD 0)) (r.headD 0) = 2 := by unfold sidA ownOf; split <;> simp
    have hkX : k < (pickL r (clL (cl l) (fsF (cl l) mt) base n)).length := by rw [pickL_len]; exact hk
    have hw := weak_is hb12 hok.cls hkX
    have hf := weak_fig hb12 hok.cls hkX
    rw [hX] at hw hf
    have hkeep := fun (h1 : _ ≠ (13 : Int)) h2 h3 => res_keep (l := l) (cls := clL (cl l) (fsF (cl l) mt) base n) (bf := sidA (fn (lvL (cl l) (fsF (cl l) mt) base n)) base (fn (lvL (cl l) (fsF (cl l) mt) base n) (r.headD 0)) (r.headD 0)) (af := sidB (cl l) (fn (lvL (cl l) (fsF (cl l) mt) base n)) n mt base (fn (lvL (cl l) (fsF (cl l) mt) base n) (r.headD 0)) (r.getLastD 0)) (lvl := fn (lvL (cl l) (fsF (cl l) mt) base n) (r.headD 0)) hk h1 h2 h3
    rw [hX] at hkeep
    have hrun : ∀ L C, runL (cl l) l L C n mt base r = resF l C (sidA (fn L) base (fn L (r.headD 0)) (r.headD 0)) (sidB (cl l) (fn L) n mt base (fn L (r.headD 0)) (r.getLastD 0)) (fn L (r.headD 0)) r := fun L C => rfl
    rw [hrun] at e
    generalize fn (weakL (pickL r (clL (cl l) (fsF (cl l) mt) base n)) (sidA (fn (lvL (cl l) (fsF (cl l) mt) base n)) base (fn (lvL (cl l) (fsF (cl l) mt) base n) (r.headD 0)) (r.headD 0))) k = W at hw hf hkeep
    generalize fn (resF l (clL (cl l) (fsF (cl l) mt) base n) (sidA (fn (lvL (cl l) (fsF (cl l) mt) base n)) base (fn (lvL (cl l) (fsF (cl l) mt) base n) (r.headD 0)) (r.headD 0)) (sidB (cl l) (fn (lvL (cl l) (fsF (cl l) mt) base n)) n mt base (fn (lvL (cl l) (fsF (cl l) mt) base n) (r.headD 0)) (r.getLastD 0)) (fn (lvL (cl l) (fsF (cl l) mt) base n) (r.headD 0)) r) k = Y at e hkeep
    generalize fn (lvL (cl l) (fsF (cl l) mt) base n) j = t at e hs
    generalize fn (levsF l mt base) j = x at e
    generalize cl l j = c at hw hf hkeep
    have key : ∀ v : Int, (v = 1 ∨ v = 2 ∨ v = 4 ∨ v = 7) → W = v → c ≠ 9 → Y = v := fun v hv hWv hc9 => by
      rw [← hWv]
      refine hkeep (by omega) hc9 ?_
      rw [hWv]
      rcases hv with e | e | e | e <;> subst e <;> decide
    rcases Int.emod_two_eq t with hp | hp
    · rw [more_even hp] at e
      constructor
      · intro hc
        have hY := key 2 (by omega) (hw.R hc) (by omega)
        rw [hY] at e
        simp at e
        omega
      · intro hc
        have hW : W = 1 ∨ W = 4 ∨ W = 7 := by
          rcases hc with hc | hc | hc
          · exact .inl (hw.L hc)
          · have := hf.1 hc; omega
          · have := hf.2 hc; omega
        rcases hW with hW | hW | hW
        · have hY := key 1 (by omega) hW (by omega); rw [hY] at e; simp at e; omega
        · have hY := key 4 (by omega) hW (by omega); rw [hY] at e; simp at e; omega
        · have hY := key 7 (by omega) hW (by omega); rw [hY] at e; simp at e; omega
    · rw [more_odd hp] at e
      constructor
      · intro hc
        have hY := key 2 (by omega) (hw.R hc) (by omega)
        rw [hY] at e
        simp at e
        omega
      · intro hc
        have hW : W = 1 ∨ W = 4 ∨ W = 7 := by
          rcases hc with hc | hc | hc
          · exact .inl (hw.L hc)
          · have := hf.1 hc; omega
          · have := hf.2 hc; omega
        rcases hW with hW | hW | hW
        · have hY := key 1 (by omega) hW (by omega); rw [hY] at e; simp at e; omega
        · have hY := key 4 (by omega) hW (by omega); rw [hY] at e; simp at e; omega
        · have hY := key 7 (by omega) hW (by omega); rw [hY] at e; simp at e; omega
  · left
    refine ⟨by omega, ?_⟩
    rw [levF_no h hj (by omega)]; omega
end Go.Proofs.YtgojdlbidjnmmaaGreat
namespace Go.Proofs.YtgojdlbidjnmmaaGreat
open Go.ChangeShapes Go.WideShapes Go.ChangeAt Go.RowKit
set_option linter.unusedSimpArgs false
set_option linter.unusedVariables false

set_option maxHeartbeats 2000000 in
theorem implTold (v : Value) (l : List Int) (mt : Nat → Nat) (base : Int) (w : World) (a : Option Addr) (cap : Nat) (hva : v = .slice a l.length cap) (hv : Arg w v l) (hl : l.length ≤ 1048576) (hmt : Hid (MateFn (cl l) l.length mt)) :
    Calls Tryz.prog 16 #[v, .int .i64 base] w fun e w' => (∃ v1 v2, e = .returned (.tuple #[v1, v2]) ∧ OwnI w' w.heap.size v1 (toldL l mt base) ∧ OwnI w' w.heap.size v2 (toldC l mt base) ∧ Apart v1 v2) ∧ Below w.heap.size w w' := by
  obtain ⟨q, hq⟩ : ∃ q, okT l base = q := ⟨_, rfl⟩
  unfold toldL toldC
  rw [hq]
  cases q
  · rw [if_neg (by simp), if_neg (by simp)]
    have HQ : Hid ((okF (fn l) l.length && baseB base) = false) := hq
    clear hq hva
    go_enter Tryz.func16, Tryz.ntmps16
    go_wp2_with (go_at_call 31; refine (tellLevels_no v l base _ hv (by omega) HQ.out).mono ?_; rintro e w1 ⟨rfl, rfl⟩)
    go_ret2
    exact ⟨⟨_, _, rfl, OwnI.nil _ _, OwnI.nil _ _, fun k h1 h2 => by simp [Value.ownBlock] at h1⟩, Below.refl _ _⟩
  · obtain ⟨hok, hb01, h80⟩ := okT_out hq
    rw [if_pos rfl, if_pos rfl]
    have HOK : Hid _ := hok
    clear hq hok
    subst hva
    go_enter Tryz.func16, Tryz.ntmps16
    go_wp2_with fail
    refine (tellLevels_yes _ l mt base l.length _ a cap rfl rfl hv HOK h80 hmt hb01).mono ?_
    rintro e w1 ⟨⟨T, gm, gq, gl, gc, M, rfl, h, _⟩, b1⟩
    have c3 := h.c3
    have c4 := h.c4
    go_wp2_with fail
    go_quiet (fail)
    go_wp2_with fail
    go_ret2
    refine ⟨⟨_, _, rfl, h.ol.drewN _, h.oc.drewN _, fun k h1 h2 => ?_⟩, bstep b1 (below_draws _ _)⟩
    simp [Value.ownBlock] at h1 h2
    exact h.nlc (by omega)
end Go.Proofs.YtgojdlbidjnmmaaGreat
namespace Go.Proofs.YtgojdlbidjnmmaaGreat
open Go.ChangeShapes Go.WideShapes Go.ChangeAt Go.RowKit
set_option linter.unusedSimpArgs false

/-- The code that a reader reads: at most 2000 bytes, none of them in the reader's own block. -/
def Code (w : World) (R : Nat) (a : Option Addr) (len : Nat) : Prop :=
  len ≤ 2000 ∧ (len = 0 ∨ ∃ b off, a = some ⟨b, off, none⟩ ∧ b < R ∧ b < w.heap.size ∧ ∀ j, j < len → ∃ x : Int, w.cell? ⟨b, off + j, none⟩ = some (.int .u8 x) ∧ 0 ≤ x ∧ x ≤ 255)
/-- A reader: its code, and how many it has read. -/
def Rd (w : World) (R p : Nat) : Prop :=
  ∃ a len cap, w.heap[R]? = some (.cells #[.slice a len cap, .int .i64 p] 92 (0, 0)) ∧ Code w R a len

theorem rd_cell0 {w : World} {R p : Nat} {v : Value} {T : TypeId} (h : w.heap[R]? = some (.cells #[v, .int .i64 p] T (0, 0))) : w.cell? ⟨R, 0, none⟩ = some v ∧ w.cell? ⟨R, 1, none⟩ = some (.int .i64 p) ∧ w.frozen? ⟨R, 1, none⟩ = false := by
  refine ⟨?_, ?_, ?_⟩
  · rw [cell_of_row w R 0 _ _ _ h]; rfl
  · rw [cell_of_row w R 1 _ _ _ h]; rfl
  · exact frozen_of_row w R 1 _ _ h

theorem xor_nat (a b : Nat) (ha : a < 4611686018427387904) (hb : b < 4611686018427387904) : bits .xor .i64 (a : Int) (b : Int) = ((a ^^^ b : Nat) : Int) := by
  have hx : a ^^^ b < 2 ^ 62 := Nat.xor_lt_two_pow (by omega) (by omega)
  show IntKind.i64.wrap ((BitVec.ofInt 64 (a : Int) ^^^ BitVec.ofInt 64 (b : Int)).toNat : Int) = _
  rw [BitVec.toNat_xor, ofInt_u64 a (by omega), ofInt_u64 b (by omega)]
  simp [IntKind.wrap, IntKind.bits, IntKind.signed]
  omega
theorem xor_pick (X n : Int) (h0 : 0 ≤ X) (h1 : X < 4611686018427387904) (hn : 1 ≤ n) : 0 ≤ (bits .xor .i64 X (X / 64)).tmod n ∧ (bits .xor .i64 X (X / 64)).tmod n < n := by
  obtain ⟨A, rfl⟩ := Int.eq_ofNat_of_zero_le h0
  have e : (A : Int) / 64 = ((A / 64 : Nat) : Int) := by omega
  rw [e, xor_nat A (A / 64) (by omega) (by omega)]
  exact ⟨Int.tmod_nonneg _ (by omega), Int.tmod_lt_of_pos _ (by omega)⟩

set_option maxHeartbeats 2000000 in
theorem pick_any (R p : Nat) (n : Int) (w : World) (hr : Rd w R p) (hp : p ≤ 100000) (hn1 : 1 ≤ n) (hn2 : n ≤ 1000000) :
    Calls Tryz.prog 44 #[.pointer (some ⟨R, 0, none⟩), .int .i64 n] w fun e w' => (∃ k : Nat, e = .returned (.int .i64 k) ∧ (k : Int) < n) ∧ ∃ m, w' = (w.setCell ⟨R, 1, none⟩ (.int .i64 ((p : Int) + 1))).drewN m := by
  obtain ⟨a, len, cap, hblk, hlen, hcode⟩ := hr
  obtain ⟨c0, c1, f1⟩ := rd_cell0 hblk
  by_cases h0 : len = 0
  · subst h0
    go_enter Tryz.func44, Tryz.ntmps44
    go_wp2
    go_ret
    exact ⟨⟨0, rfl, by omega⟩, 0, rfl⟩
  · obtain ⟨b, off, rfl, hbR0, hbw, hbytes⟩ : ∃ b off, a = some ⟨b, off, none⟩ ∧ b < R ∧ b < w.heap.size ∧ ∀ j, j < len → ∃ x : Int, w.cell? ⟨b, off + j, none⟩ = some (.int .u8 x) ∧ 0 ≤ x ∧ x ≤ 255 := by
      rcases hcode with h | h
      · exact absurd h h0
      · exact h
    have hbR : b ≠ R := by omega
    have HB : Hid _ := hbytes
    have hl0 : ((len : Int) == 0) = false := by simp; omega
    clear hbytes hcode
    by_cases hpl : p < len
    · obtain ⟨x, hx, hx0, hx1⟩ := HB.out p hpl
      go_enter Tryz.func44, Tryz.ntmps44
      go_wp2
      go_ret
      have h1 := Int.emod_nonneg x (show n ≠ 0 by omega)
      have h2 := Int.emod_lt_of_pos x (show 0 < n by omega)
      exact ⟨⟨(x % n).toNat, retInt (Int.toNat_of_nonneg h1).symm, by rw [Int.toNat_of_nonneg h1]; exact h2⟩, 0, rfl⟩
    · have hm1 : p % len < len := Nat.mod_lt _ (by omega)
      have hm2 : (p * 7 + 3) % len < len := Nat.mod_lt _ (by omega)
      obtain ⟨x, hx, hx0, hx1⟩ := HB.out (p % len) hm1
      obtain ⟨y, hy, hy0, hy1⟩ := HB.out ((p * 7 + 3) % len) hm2
      have hq : p / len ≤ p := Nat.div_le_self _ _
      have hlp : (0 : Int) < (len : Int) := by omega
      have i1 : (p : Int) % (len : Int) < (len : Int) := Int.emod_lt_of_pos _ hlp
      have j1 : 0 ≤ (p : Int) % (len : Int) := Int.emod_nonneg _ (by omega)
      have j2 : 0 ≤ ((p : Int) * 7 + 3) % (len : Int) := Int.emod_nonneg _ (by omega)
      have i2 : ((p : Int) * 7 + 3) % (len : Int) < (len : Int) := Int.emod_lt_of_pos _ hlp
      have d0 : 0 ≤ (p : Int) / (len : Int) := Int.ediv_nonneg (by omega) (by omega)
      have d1 : (p : Int) / (len : Int) ≤ 100000 := by
        have : (p : Int) / (len : Int) = ((p / len : Nat) : Int) := by simp
        rw [this]; omega
      have HX : Hid _ := xor_pick (x * 131 + y * 1117 + (p : Int) * 29 + (p : Int) / (len : Int) * 53) n (by omega) (by omega) hn1
      go_enter Tryz.func44, Tryz.ntmps44
      go_wp2
      go_quiet (fail)
      go_wp2
      go_ret
      exact ⟨⟨_, retInt (Int.toNat_of_nonneg HX.out.1).symm, by rw [Int.toNat_of_nonneg HX.out.1]; exact HX.out.2⟩, _, rfl⟩
end Go.Proofs.YtgojdlbidjnmmaaGreat
namespace Go.Proofs.YtgojdlbidjnmmaaGreat
open Go.ChangeShapes Go.WideShapes Go.ChangeAt Go.RowKit
set_option linter.unusedSimpArgs false

/-- What a reader's function leaves: the reader has read on, and of what was there no other block has turned. -/
structure Went (w w' : World) (R p' : Nat) : Prop where
  rd : Rd w' R p'
  gr : w.grownBy w' (some R)

theorem grown_trans {a b c : World} {row : Option Nat} (h : a.grownBy b row) (k : b.grownBy c row) : a.grownBy c row :=
  ⟨k.os.trans h.os, k.tape.trans h.tape, k.output.trans h.output, Nat.le_trans h.size k.size, fun i hi hne => (k.block i (Nat.lt_of_lt_of_le hi h.size) hne).trans (h.block i hi hne)⟩
theorem grown_alloc (w : World) (o : Obj) (row : Option Nat) : w.grownBy (w.alloc o) row :=
  ⟨rfl, rfl, rfl, by simp, fun k hk _ => Below.heap_alloc w o k hk⟩
theorem Code.kept {w w' : World} {R len : Nat} {a : Option Addr} (h : Code w R a len) (hg : w.grownBy w' (some R)) : Code w' R a len := by
  refine ⟨h.1, ?_⟩
  rcases h.2 with h0 | ⟨b, off, h1, h2, h3, h4⟩
  · exact .inl h0
  · refine .inr ⟨b, off, h1, h2, Nat.lt_of_lt_of_le h3 hg.size, fun j hj => ?_⟩
    obtain ⟨x, hx, hb⟩ := h4 j hj
    exact ⟨x, (World.cell?_of_block (a := ⟨b, off + j, none⟩) (hg.block b h3 (fun e => by simp at e; omega))).trans hx, hb⟩
theorem Rd.lt {w : World} {R p : Nat} (h : Rd w R p) : R < w.heap.size := by
  obtain ⟨a, len, cap, hb, _⟩ := h
  exact (Array.getElem?_eq_some_iff.1 hb).1
theorem Rd.alloc {w : World} {R p : Nat} (h : Rd w R p) (o : Obj) : Rd (w.alloc o) R p := by
  have hl := h.lt
  obtain ⟨a, len, cap, hb, hc⟩ := h
  exact ⟨a, len, cap, (Below.heap_alloc w o R hl).trans hb, hc.kept (grown_alloc w o _)⟩
/-- What another one's rows do to a reader: nothing. -/
theorem Rd.beside {w w' : World} {R p : Nat} {row : Option Nat} (h : Rd w R p) (hg : w.grownBy w' row) (hc : ∀ k, row = some k → R < k) : Rd w' R p := by
  have hl := h.lt
  obtain ⟨a, len, cap, hb, hcode⟩ := h
  refine ⟨a, len, cap, (hg.block R hl (fun e => by have := hc R e.symm; omega)).trans hb, hcode.1, ?_⟩
  rcases hcode.2 with h0 | ⟨b, off, h1, h2, h3, h4⟩
  · exact .inl h0
  · refine .inr ⟨b, off, h1, h2, Nat.lt_of_lt_of_le h3 hg.size, fun j hj => ?_⟩
    obtain ⟨x, hx, hbd⟩ := h4 j hj
    exact ⟨x, (World.cell?_of_block (a := ⟨b, off + j, none⟩) (hg.block b h3 (fun e => by have := hc b e.symm; omega))).trans hx, hbd⟩
theorem grown_own {w wr w1 : World} {row : Option Nat} {v : Value} (h : w.grownBy wr row) (hg : wr.grownBy w1 v.ownBlock) (ho : ∀ k, v.ownBlock = some k → w.heap.size ≤ k) : w.grownBy w1 row :=
  ⟨hg.os.trans h.os, hg.tape.trans h.tape, hg.output.trans h.output, Nat.le_trans h.size hg.size, fun i hi hne =>
    (hg.block i (Nat.lt_of_lt_of_le hi h.size) (fun e => by have := ho i e.symm; omega)).trans (h.block i hi hne)⟩
theorem OwnI.went {w wr : World} {R p B : Nat} {v : Value} {l : List Int} (h : OwnI w B v l) (hw : Went w wr R p) (hB : R < B) : OwnI wr B v l :=
  h.kept fun k hk => hw.gr.block k (h.lt k hk).2 (fun e => by have := (h.lt k hk).1; simp at e; omega)

theorem pick_went (R p : Nat) (n : Int) (w : World) (hr : Rd w R p) (hp : p ≤ 100000) (hn1 : 1 ≤ n) (hn2 : n ≤ 1000000) :
    Calls Tryz.prog 44 #[.pointer (some ⟨R, 0, none⟩), .int .i64 n] w fun e w' => (∃ k : Nat, e = .returned (.int .i64 k) ∧ (k : Int) < n) ∧ Went w w' R (p + 1) ∧ w'.heap.size = w.heap.size := by
  refine (pick_any R p n w hr hp hn1 hn2).mono ?_
  rintro e w' ⟨hk, m, rfl⟩
  have hl := hr.lt
  obtain ⟨a, len, cap, hb, hcode⟩ := hr
  have hgr : w.grownBy ((w.setCell ⟨R, 1, none⟩ (.int .i64 ((p : Int) + 1))).drewN m) (some R) :=
    ⟨rfl, rfl, rfl, by simp, fun k _ hne => heap_setCell_other w ⟨R, 1, none⟩ k _ (fun e => hne (by rw [e]))⟩
  refine ⟨hk, ⟨⟨a, len, cap, ?_, hcode.kept hgr⟩, hgr⟩, by simp⟩
  show (w.setCell ⟨R, 1, none⟩ (.int .i64 ((p : Int) + 1))).heap[R]? = _
  rw [heap_setCell_same w R 1 _ _ _ hb]
  simp

def isI : Value → Bool
  | .int .i64 _ => true
  | _ => false
theorem isI_get {cs : Array Value} (h : cs.all isI = true) {j : Nat} (hj : j < cs.size) : ∃ x : Int, cs[j]? = some (.int .i64 x) := by
  have := Array.all_eq_true.1 h j hj
  rw [Array.getElem?_eq_getElem hj]
  generalize cs[j] = v at this
  match v, this with
  | .int .i64 x, _ => exact ⟨x, rfl⟩

set_option maxHeartbeats 1000000 in
theorem one_any (R p m : Nat) (cs : Array Value) (T : TypeId) (w : World) (hr : Rd w R p) (hp : p ≤ 100000) (hcs : cs.all isI = true) (hm : cs.size = m) (h1 : 1 ≤ m) (h2 : m ≤ 1000) :
    Calls Tryz.prog 86 #[.pointer (some ⟨R, 0, none⟩), .slice (some ⟨w.heap.size, 0, none⟩) m m] (w.alloc (.cells cs T)) fun e w' => (∃ x : Int, e = .returned (.int .i64 x)) ∧ Went w w' R (p + 1) := by
  have hlt := hr.lt
  go_enter Tryz.func86, Tryz.ntmps86
  go_wp2_with fail
  refine (pick_went R p _ _ (hr.alloc _) hp (by omega) (by omega)).mono ?_
  rintro e w1 ⟨⟨k, rfl, hk⟩, hW, hsz⟩
  obtain ⟨x, hx⟩ := isI_get hcs (show k < cs.size by omega)
  have hcell : w1.cell? ⟨w.heap.size, k, none⟩ = some (.int .i64 x) := by
    have hb : w1.heap[w.heap.size]? = (w.alloc (.cells cs T)).heap[w.heap.size]? := hW.gr.block _ (by simp) (by simp; omega)
    rw [World.cell?_of_block (a := ⟨w.heap.size, k, none⟩) hb]
    simp [hx]
  have hkm : (k : Int) < (m : Int) := by omega
  have HW : Hid _ := hW
  clear hW
  go_wp2_with fail
  go_ret
  exact ⟨⟨x, rfl⟩, HW.out.rd, grown_trans (grown_alloc w _ _) HW.out.gr⟩

set_option maxHeartbeats 4000000 in
theorem rune_any (R p : Nat) (w : World) (hr : Rd w R p) (hp : p ≤ 99000) :
    Calls Tryz.prog 133 #[.pointer (some ⟨R, 0, none⟩)] w fun e w' => (∃ x : Int, e = .returned (.int .i64 x)) ∧ ∃ p', p' ≤ p + 2 ∧ Went w w' R p' := by
  go_enter Tryz.func133, Tryz.ntmps133
  go_wp2_with fail
  refine (pick_went R p _ _ hr (by omega) (by omega) (by omega)).mono ?_
  rintro e w1 ⟨⟨k, rfl, hk⟩, hW, hsz⟩
  have HW : Hid _ := hW
  have HR : Hid _ := hW.rd
  clear hW hsz
  go_wp2_with (go_at_call 86; refine (one_any R (p + 1) _ _ _ _ HR.out (by omega) (by kernel_rfl) (by rfl) (by omega) (by omega)).mono ?_; rintro e w2 ⟨⟨x, rfl⟩, hW2⟩)
  all_goals (go_ret)
  all_goals first
    | exact ⟨⟨_, rfl⟩, p + 2, by omega, hW2.rd, grown_trans HW.out.gr hW2.gr⟩
    | exact ⟨⟨_, rfl⟩, p + 1, by omega, HW.out⟩
end Go.Proofs.YtgojdlbidjnmmaaGreat
namespace Go.Proofs.YtgojdlbidjnmmaaGreat
open Go.ChangeShapes Go.WideShapes Go.ChangeAt Go.RowKit
set_option linter.unusedSimpArgs false

theorem Went.refl {w : World} {R p : Nat} (h : Rd w R p) : Went w w R p := ⟨h, ⟨rfl, rfl, rfl, Nat.le_refl _, fun _ _ _ => rfl⟩⟩
theorem Went.trans {a b c : World} {R p q : Nat} (h : Went a b R p) (k : Went b c R q) : Went a c R q := ⟨k.rd, grown_trans h.gr k.gr⟩
theorem Went.own {w wr w1 : World} {R p B : Nat} {v : Value} {l : List Int} (h : Went w wr R p) (hg : wr.grownBy w1 v.ownBlock) (ho : OwnI wr B v l) (hB : w.heap.size ≤ B) (hR : R < w.heap.size) : Went w w1 R p :=
  ⟨h.rd.beside hg (fun k hk => by have := (ho.lt k hk).1; omega), grown_own h.gr hg (fun k hk => by have := (ho.lt k hk).1; omega)⟩
theorem Went.below {w w' : World} {R p B : Nat} (h : Went w w' R p) (hB : B ≤ R) (hR : R < w.heap.size) : Below B w w' :=
  ⟨h.gr.os, h.gr.tape, h.gr.output, h.gr.size, fun k hk => h.gr.block k (by omega) (fun e => by simp at e; omega)⟩

def lenOf : Value → Nat
  | .slice _ n _ => n
  | _ => 0

set_option maxHeartbeats 4000000 in
theorem runes_any (R p : Nat) (w : World) (hr : Rd w R p) (hp : p ≤ 90000) :
    Calls Tryz.prog 85 #[.pointer (some ⟨R, 0, none⟩)] w fun e w' => (∃ v l, e = .returned v ∧ OwnI w' w.heap.size v l ∧ l.length ≤ 80) ∧ ∃ p', p' ≤ p + 200 ∧ Went w w' R p' := by
  have hlt := hr.lt
  go_enter Tryz.func85, Tryz.ntmps85
  go_wp2_with fail
  refine (pick_went R p _ _ (hr.alloc _) (by omega) (by omega) (by omega)).mono ?_
  rintro e w1 ⟨⟨n, rfl, hn⟩, hW, hsz⟩
  have hW0 : Went w w1 R (p + 1) := ⟨hW.rd, grown_trans (grown_alloc w _ _) hW.gr⟩
  have hO : OwnI w1 w.heap.size (.slice (some ⟨w.heap.size, 0, none⟩) 0 0) [] := (own_empty w w.heap.size 3 (Nat.le_refl _) rfl).went hW hlt
  clear hW hsz
  go_wp2_with fail
  go_loopw [3, 4] (fun q i wr => ∃ (k : Nat) (l : List Int) (p' : Nat), i = .int .i64 k ∧ OwnI wr w.heap.size q l ∧ l.length + k ≤ 23 ∧ p' + 2 * k ≤ p + 47 ∧ Went w wr R p') (fun _ i _ => (intOf i).toNat)
  case atStart => exact ⟨n, [], p + 1, rfl, hO, by simp; omega, by omega, hW0⟩
  case round =>
    obtain ⟨k, l, p', rfl, hown, hlen, hpp, hwent⟩ := hrel
    have hsz := hwent.gr.size
    by_cases hk : k = 0
    · subst hk
      go_wp2_with fail
      refine (pick_went R p' _ _ hwent.rd (by omega) (by omega) (by omega)).mono ?_
      rintro e w2 ⟨⟨m, rfl, hm⟩, hW2, hsz2⟩
      have hW3 := hwent.trans hW2
      have hown2 := hown.went hW2 hlt
      clear hW2 hsz2
      by_cases hm0 : m = 0
      · subst hm0
        go_wp2_with fail
        go_loopw [3] (fun q wr => ∃ (l : List Int) (p' : Nat), (∃ a cap, q = .slice a l.length cap) ∧ OwnI wr w.heap.size q l ∧ l.length ≤ 80 ∧ p' + (80 - l.length) ≤ p + 150 ∧ Went w wr R p') (fun q _ => 80 - lenOf q)
        case atStart =>
          refine ⟨l, p' + 1, ?_, hown2, by omega, by omega, hW3⟩
          rcases hown2.forms with ⟨rfl, rfl⟩ | ⟨g, cap, rfl, _⟩
          · exact ⟨_, _, rfl⟩
          · exact ⟨_, _, rfl⟩
        case round =>
          obtain ⟨l, p', ⟨a, cap, rfl⟩, hown, hlen, hpp, hwent⟩ := hrel
          have hR := hwent.rd
          have hsw := hwent.gr.size
          by_cases h80 : l.length < 80
          · have h80i : (l.length : Int) < 80 := by omega
            go_wp2_with fail
            refine (one_any R p' _ _ _ _ hR (by omega) (by kernel_rfl) (by rfl) (by omega) (by omega)).mono ?_
            rintro e w4 ⟨⟨x, rfl⟩, hW4⟩
            have hW5 := hwent.trans hW4
            have hown4 := hown.went hW4 hlt
            have hs4 := hW5.gr.size
            clear hW4
            go_wp2_with (at_builtin; refine own_append (.tmp 23) (.tmp 27) hown4 (by omega) hs4 rfl rfl rfl rfl ?_; intro v' w5 hown5 hgr5)
            have hl5 : (l ++ [x]).length = l.length + 1 := by simp
            obtain ⟨g, cp, rfl⟩ : ∃ g cp, v' = .slice g (l ++ [x]).length cp := by
              rcases hown5.forms with ⟨_, h⟩ | ⟨g, cap, h, _⟩
              · simp at h
              · exact ⟨_, _, h⟩
            go_roundw
            case rel => exact ⟨l ++ [x], p' + 1, ⟨_, _, rfl⟩, hown5, by omega, by omega, hW5.own hgr5 hown4 (Nat.le_refl _) hlt⟩
            case measure => simp only [lenOf]; omega
          · have h80i : ¬ (l.length : Int) < 80 := by omega
            go_wp2_with fail
            go_ret
            exact ⟨⟨_, rfl, l, hown, by omega⟩, p', by omega, hwent⟩
      · have hmb : ((m : Int) == 0) = false := by simp; omega
        go_wp2_with fail
        go_ret
        exact ⟨⟨_, l, rfl, hown2, by omega⟩, p' + 1, by omega, hW3⟩
    · obtain ⟨j, rfl⟩ : ∃ j, k = j + 1 := ⟨k - 1, by omega⟩
      go_wp2_with fail
      refine (rune_any R p' _ hwent.rd (by omega)).mono ?_
      rintro e w2 ⟨⟨x, rfl⟩, p2, hp2, hW2⟩
      have hW3 := hwent.trans hW2
      have hown2 := hown.went hW2 hlt
      have hs2 := hW3.gr.size
      clear hW2
      go_wp2_with (at_builtin; refine own_append (.tmp 12) (.tmp 15) hown2 (by omega) hs2 rfl rfl rfl rfl ?_; intro v' w3 hown3 hgr3)
      go_roundw
      case rel => exact ⟨j, l ++ [x], p2, by go_num, hown3, by simp; omega, by omega, hW3.own hgr3 hown2 (Nat.le_refl _) hlt⟩
      case measure => simp only [intOf]; omega
end Go.Proofs.YtgojdlbidjnmmaaGreat
namespace Go.Proofs.YtgojdlbidjnmmaaGreat
open Go.ChangeShapes Go.WideShapes Go.ChangeAt Go.RowKit
set_option linter.unusedSimpArgs false

set_option maxHeartbeats 4000000 in
theorem any_any (R p : Nat) (w : World) (hr : Rd w R p) (hp : p ≤ 80000) :
    Calls Tryz.prog 42 #[.pointer (some ⟨R, 0, none⟩)] w fun e w' => (∃ v l, e = .returned v ∧ OwnI w' w.heap.size v l ∧ l.length ≤ 81) ∧ ∃ p', p' ≤ p + 300 ∧ Went w w' R p' := by
  have hlt := hr.lt
  go_enter Tryz.func42, Tryz.ntmps42
  go_wp2_with fail
  refine (runes_any R p _ hr (by omega)).mono ?_
  rintro e w1 ⟨⟨v, l, rfl, hown, hlen⟩, p1, hp1, hW⟩
  go_wp2_with fail
  refine (pick_went R p1 _ _ hW.rd (by omega) (by omega) (by omega)).mono ?_
  rintro e w2 ⟨⟨n, rfl, hn⟩, hW2, hsz⟩
  have hW3 := hW.trans hW2
  have hown2 := hown.went hW2 hlt
  have hs2 := hW3.gr.size
  clear hW2 hsz hW hown
  by_cases h0 : n = 0
  · subst h0
    have hR := hW3.rd
    go_wp2_with fail
    refine (one_any R (p1 + 1) _ _ _ _ hR (by omega) (by kernel_rfl) (by rfl) (by omega) (by omega)).mono ?_
    rintro e w4 ⟨⟨x, rfl⟩, hW4⟩
    have hW5 := hW3.trans hW4
    have hown4 := hown2.went hW4 hlt
    have hs4 := hW5.gr.size
    clear hW4
    go_wp2_with (at_builtin; refine own_append (.tmp 10) (.tmp 14) hown4 (by omega) hs4 rfl rfl rfl rfl ?_; intro v' w5 hown5 hgr5)
    go_ret
    exact ⟨⟨_, _, rfl, hown5, by simp; omega⟩, p1 + 1 + 1, by omega, hW5.own hgr5 hown4 (Nat.le_refl _) hlt⟩
  · have h0b : ((n : Int) == 0) = false := by simp; omega
    by_cases h1 : n = 1
    · subst h1
      go_wp2_with fail
      go_loopw [3] (fun q wr => ∃ (l : List Int), (∃ a cap, q = .slice a l.length cap) ∧ OwnI wr w.heap.size q l ∧ l.length ≤ 81 ∧ Went w wr R (p1 + 1)) (fun q _ => 81 - lenOf q)
      case atStart =>
        refine ⟨l, ?_, hown2, by omega, hW3⟩
        rcases hown2.forms with ⟨rfl, rfl⟩ | ⟨g, cap, rfl, _⟩
        · exact ⟨_, _, rfl⟩
        · exact ⟨_, _, rfl⟩
      case round =>
        obtain ⟨l, ⟨a, cap, rfl⟩, hown, hlen, hwent⟩ := hrel
        have hsw := hwent.gr.size
        by_cases h80 : l.length ≤ 80
        · have h80i : (l.length : Int) ≤ 80 := by omega
          go_wp2_with (at_builtin; refine own_append (.tmp 21) (.tmp 22) hown (by omega) hsw rfl rfl rfl rfl ?_; intro v' w5 hown5 hgr5)
          have hl5 : (l ++ [(97 : Int)]).length = l.length + 1 := by simp
          obtain ⟨g, cp, rfl⟩ : ∃ g cp, v' = .slice g (l ++ [(97 : Int)]).length cp := by
            rcases hown5.forms with ⟨_, h⟩ | ⟨g, cap, h, _⟩
            · simp at h
            · exact ⟨_, _, h⟩
          go_roundw
          case rel => exact ⟨l ++ [97], ⟨_, _, rfl⟩, hown5, by omega, hwent.own hgr5 hown (Nat.le_refl _) hlt⟩
          case measure => simp only [lenOf]; omega
        · have h80i : ¬ (l.length : Int) ≤ 80 := by omega
          go_wp2_with fail
          go_ret
          exact ⟨⟨_, rfl, l, hown, by omega⟩, p1 + 1, by omega, hwent⟩
    · have h1b : ((n : Int) == 1) = false := by simp; omega
      go_wp2_with fail
      go_ret
      exact ⟨⟨_, _, rfl, hown2, by omega⟩, p1 + 1, by omega, hW3⟩

/-- The bytes of a code that came in. -/
def Bytes (w : World) (a : Option Addr) (len cap : Nat) : Prop :=
  len ≤ cap ∧ cap ≤ maxLen ∧ (len = 0 ∨ ∃ b off, a = some ⟨b, off, none⟩ ∧ b < w.heap.size ∧ ∀ j, j < len → ∃ x : Int, w.cell? ⟨b, off + j, none⟩ = some (.int .u8 x) ∧ 0 ≤ x ∧ x ≤ 255)
theorem Bytes.below {w w' : World} {a : Option Addr} {len cap : Nat} (h : Bytes w a len cap) (hb : Below w.heap.size w w') : Bytes w' a len cap := by
  refine ⟨h.1, h.2.1, ?_⟩
  rcases h.2.2 with h0 | ⟨b, off, h1, h2, h3⟩
  · exact .inl h0
  · refine .inr ⟨b, off, h1, Nat.lt_of_lt_of_le h2 hb.size, fun j hj => ?_⟩
    obtain ⟨x, hx, hbd⟩ := h3 j hj
    exact ⟨x, (hb.cell (p := ⟨b, off + j, none⟩) h2).trans hx, hbd⟩

theorem rd_new {w : World} {a : Option Addr} {len cap : Nat} (hlen : len ≤ 2000) (h : len = 0 ∨ ∃ b off, a = some ⟨b, off, none⟩ ∧ b < w.heap.size ∧ ∀ j, j < len → ∃ x : Int, w.cell? ⟨b, off + j, none⟩ = some (.int .u8 x) ∧ 0 ≤ x ∧ x ≤ 255) :
    Rd (w.alloc (.cells #[.slice a len cap, .int .i64 0] 92)) w.heap.size 0 := by
  refine ⟨a, len, cap, by show (w.heap.push _)[w.heap.size]? = _; simp, hlen, ?_⟩
  rcases h with h0 | ⟨b, off, h1, h2, h3⟩
  · exact .inl h0
  · refine .inr ⟨b, off, h1, h2, by simp; omega, fun j hj => ?_⟩
    obtain ⟨x, hx, hbd⟩ := h3 j hj
    exact ⟨x, (World.cell?_of_block (a := ⟨b, off + j, none⟩) (Below.heap_alloc w _ b h2)).trans hx, hbd⟩

set_option maxHeartbeats 1000000 in
theorem open_any (a : Option Addr) (len cap : Nat) (w : World) (h : Bytes w a len cap) :
    Calls Tryz.prog 41 #[.slice a len cap] w fun e w' => e = .returned (.pointer (some ⟨w.heap.size, 0, none⟩)) ∧ Rd w' w.heap.size 0 ∧ Below w.heap.size w w' := by
  obtain ⟨hlc, hcm, hcode⟩ := h
  unfold maxLen at hcm
  by_cases hbig : 2000 < len
  · obtain ⟨b, off, rfl, hb, hbytes⟩ : ∃ b off, a = some ⟨b, off, none⟩ ∧ b < w.heap.size ∧ ∀ j, j < len → ∃ x : Int, w.cell? ⟨b, off + j, none⟩ = some (.int .u8 x) ∧ 0 ≤ x ∧ x ≤ 255 := by
      rcases hcode with h | h
      · omega
      · exact h
    have HB : Hid _ := hbytes
    clear hbytes hcode
    have hbi : (2000 : Int) < (len : Int) := by omega
    have hci : (2000 : Int) ≤ (cap : Int) := by omega
    go_enter Tryz.func41, Tryz.ntmps41
    go_wp2
    go_ret
    exact ⟨rfl, rd_new (by omega) (.inr ⟨b, off, rfl, hb, fun j hj => HB.out j (by omega)⟩), by go_grown⟩
  · have hbi : (len : Int) ≤ 2000 := by omega
    have HC : Hid _ := hcode
    clear hcode
    go_enter Tryz.func41, Tryz.ntmps41
    go_wp2
    go_ret
    exact ⟨rfl, rd_new (by omega) HC.out, by go_grown⟩
end Go.Proofs.YtgojdlbidjnmmaaGreat
namespace Go.Proofs.YtgojdlbidjnmmaaGreat
open Go.ChangeShapes Go.WideShapes Go.ChangeAt Go.RowKit
set_option linter.unusedSimpArgs false

theorem six_get {w : World} {R : Nat} {a b c d e f : Int} {k : Nat} {T : TypeId} (h : w.heap[R]? = some (.cells #[.int .i64 a, .int .i64 b, .int .i64 c, .int .i64 d, .int .i64 e, .int .i64 f] T (0, 0))) (hk : k < 6) : ∃ x : Int, w.cell? ⟨R, k, none⟩ = some (.int .i64 x) := by
  rw [cell_of_row w R k _ _ _ h]
  rcases (by omega : k = 0 ∨ k = 1 ∨ k = 2 ∨ k = 3 ∨ k = 4 ∨ k = 5) with e | e | e | e | e | e
  all_goals (subst e; exact ⟨_, rfl⟩)

set_option maxHeartbeats 1000000 in
theorem base_any (R p : Nat) (w : World) (hr : Rd w R p) (hp : p ≤ 90000) :
    Calls Tryz.prog 45 #[.pointer (some ⟨R, 0, none⟩)] w fun e w' => (∃ b : Int, e = .returned (.int .i64 b)) ∧ Went w w' R (p + 1) := by
  have hlt := hr.lt
  go_enter Tryz.func45, Tryz.ntmps45
  go_wp2_with fail
  refine (pick_went R p _ _ (hr.alloc _) (by omega) (by omega) (by omega)).mono ?_
  rintro e w5 ⟨⟨x4, rfl, hx4⟩, hW5, hz5⟩
  have hV5 : Went w w5 R (p + 1) := ⟨hW5.rd, grown_trans (grown_alloc w _ _) hW5.gr⟩
  obtain ⟨x5, hx5⟩ : ∃ x : Int, w5.cell? ⟨w.heap.size, x4 * 6 / 18, none⟩ = some (.int .i64 x) := by
    refine six_get (T := 3) (a := 0) (b := 1) (c := 0) (d := 1) (e := 2) (f := -1) ?_ (by omega)
    rw [hW5.gr.block _ (by simp) (by simp; omega)]
    show (w.heap.push _)[w.heap.size]? = _
    simp
  clear hW5 hz5
  go_wp2_with fail
  go_ret
  exact ⟨⟨x5, rfl⟩, hV5⟩

set_option maxHeartbeats 1000000 in
theorem drawTold (a : Option Addr) (len cap : Nat) (w : World) (h : Bytes w a len cap) :
    Calls Tryz.prog 28 #[.slice a len cap] w fun e w' => (∃ v l b, e = .returned (.tuple #[v, .int .i64 b]) ∧ OwnI w' w.heap.size v l ∧ l.length ≤ 81) ∧ Below w.heap.size w w' := by
  go_enter Tryz.func28, Tryz.ntmps28
  go_wp2_with fail
  refine (open_any a len cap w h).mono ?_
  rintro e w1 ⟨rfl, hR, hB⟩
  have hlt := hR.lt
  have hsz := hB.size
  go_wp2_with fail
  refine (any_any w.heap.size 0 w1 hR (by omega)).mono ?_
  rintro e w2 ⟨⟨v, l, rfl, hown, hl⟩, p', hp', hW⟩
  go_wp2_with fail
  refine (base_any w.heap.size p' w2 hW.rd (by omega)).mono ?_
  rintro e w3 ⟨⟨b, rfl⟩, hW3⟩
  have ho3 := hown.went hW3 hlt
  have hV := hW.trans hW3
  clear hW hW3 hown
  go_wp2_with fail
  go_ret2
  exact ⟨⟨v, l, b, rfl, ho3.mono (by omega), hl⟩, hB.trans (hV.below (Nat.le_refl _) hlt)⟩
end Go.Proofs.YtgojdlbidjnmmaaGreat
namespace Go.Proofs.YtgojdlbidjnmmaaGreat
open Go.ChangeShapes Go.WideShapes Go.ChangeAt Go.RowKit
set_option linter.unusedSimpArgs false

def eqBw (a b : List Int) : Bool := decide (a = b)
theorem eqBw_self (a : List Int) : eqBw a a = true := by simp [eqBw]
theorem eqBw_no {a b : List Int} (h : a ≠ b) : eqBw a b = false := by simp [eqBw, h]

set_option maxHeartbeats 2000000 in
theorem wcInts_any (v1 v2 : Value) (l1 l2 : List Int) (w : World) (h1 : Arg w v1 l1) (h2 : Arg w v2 l2) (hl : l1.length ≤ 4194304) :
    Calls Tryz.prog 12 #[v1, v2] w fun e w' => e = .returned (.bool (eqBw l1 l2)) ∧ ∃ n, w' = w.drewN n := by
  by_cases hn : l1.length = l2.length
  · rcases h1 with ⟨a1, c1, rfl, rfl⟩ | ⟨b, off, cap, rfl, hb, hlc, hcm, hat⟩
    · have e2 : l2 = [] := List.eq_nil_of_length_eq_zero hn.symm
      subst e2
      rcases h2 with ⟨a2, c2, rfl, _⟩ | ⟨b', off', cap', rfl, hb', hlc', hcm', hat'⟩
      all_goals
        go_enter Tryz.func12, Tryz.ntmps12
        go_wp2
        go_rounds 1
        go_ret
        exact ⟨rfl, 0, rfl⟩
    · rcases h2 with ⟨a2, c2, rfl, rfl⟩ | ⟨b', off', cap', rfl, hb', hlc', hcm', hat'⟩
      · have e1 : l1 = [] := List.eq_nil_of_length_eq_zero hn
        subst e1
        go_enter Tryz.func12, Tryz.ntmps12
        go_wp2
        go_rounds 1
        go_ret
        exact ⟨rfl, 0, rfl⟩
      · obtain ⟨n, hn1⟩ : ∃ n, l1.length = n := ⟨_, rfl⟩
        have hn2 : l2.length = n := by omega
        have hnn : n ≤ 4194304 := by omega
        rw [hn1, hn2]
        clear hn
        go_enter Tryz.func12, Tryz.ntmps12
        go_wp2
        go_loopw [5] (fun i wr => ∃ (k m : Nat), k ≤ n ∧ i = .int .i64 k ∧ wr = w.drewN m ∧ Hid (∀ j, j < k → fn l1 j = fn l2 j)) (fun i _ => n - (intOf i).toNat)
        case atStart => exact ⟨0, 0, Nat.zero_le _, rfl, rfl, fun j hj => by omega⟩
        case round =>
          obtain ⟨k, m, hk, rfl, rfl, hsame⟩ := hrel
          by_cases hlt : k < n
          · have hc1 : w.cell? ⟨b, off + k, none⟩ = some (.int .i64 (fn l1 k)) := hat k (by omega)
            have hc2 : w.cell? ⟨b', off' + k, none⟩ = some (.int .i64 (fn l2 k)) := hat' k (by omega)
            have hki : (k : Int) < (n : Int) := by omega
            by_cases hq : fn l1 k = fn l2 k
            · have hq2 : (fn l1 k == fn l2 k) = true := by simpa using hq
              have HQ : Hid _ := hq
              clear hq
              go_wp2
              go_quiet (fail)
              go_wp2
              go_roundw
              case rel =>
                refine ⟨k + 1, _, by omega, by go_num, by first | rfl | rw [World.drewN_drewN], fun j hj => ?_⟩
                by_cases ej : j = k
                · subst ej; exact HQ.out
                · exact hsame.out j (by omega)
              case measure => simp only [intOf]; omega
            · have hq2 : (fn l1 k == fn l2 k) = false := by simpa using hq
              go_wp2
              go_quiet (fail)
              go_wp2
              go_ret
              exact ⟨retBool (eqBw_no (fun h => hq (by rw [h]))).symm, _, by first | rfl | rw [World.drewN_drewN]⟩
          · have e : k = n := by omega
            subst e
            go_wp2
            go_ret
            refine ⟨retBool ?_, _, rfl⟩
            rw [ext_fn (l := l1) (r := l2) (by omega) (fun j hj => hsame.out j (by omega)), eqBw_self]
  · have hfin := eqBw_no (a := l1) (b := l2) (fun h => hn (by rw [h]))
    have HF : Hid _ := hfin
    have hne : ((l1.length : Int) != (l2.length : Int)) = true := by simp; omega
    clear hfin
    rcases h1 with ⟨a1, c1, rfl, e1⟩ | ⟨b, off, cap, rfl, hb, hlc, hcm, hat⟩
    all_goals
      rcases h2 with ⟨a2, c2, rfl, e2⟩ | ⟨b', off', cap', rfl, hb', hlc', hcm', hat'⟩
    · exact absurd (by rw [e1, e2]) hn
    · have hz : ((0 : Int) != (l2.length : Int)) = true := by rw [e1] at hne; exact hne
      clear hne
      go_enter Tryz.func12, Tryz.ntmps12
      go_wp2
      go_ret
      exact ⟨retBool HF.out.symm, 0, rfl⟩
    · have hz : ((l1.length : Int) != (0 : Int)) = true := by rw [e2] at hne; exact hne
      clear hne
      go_enter Tryz.func12, Tryz.ntmps12
      go_wp2
      go_ret
      exact ⟨retBool HF.out.symm, 0, rfl⟩
    · go_enter Tryz.func12, Tryz.ntmps12
      go_wp2
      go_ret
      exact ⟨retBool HF.out.symm, 0, rfl⟩

theorem wcInts_yes (v1 v2 : Value) (l : List Int) (w : World) (h1 : Arg w v1 l) (h2 : Arg w v2 l) (hl : l.length ≤ 4194304) :
    Calls Tryz.prog 12 #[v1, v2] w fun e w' => e = .returned (.bool true) ∧ Below w.heap.size w w' := by
  refine (wcInts_any v1 v2 l l w h1 h2 hl).mono ?_
  rintro e w' ⟨rfl, n, rfl⟩
  exact ⟨retBool (eqBw_self l), below_draws w n⟩
end Go.Proofs.YtgojdlbidjnmmaaGreat
namespace Go.Proofs.YtgojdlbidjnmmaaGreat
open Go.ChangeShapes Go.WideShapes Go.ChangeAt Go.RowKit
set_option linter.unusedSimpArgs false

/-- What came in as a row of bytes can be read. -/
theorem bytesRow {w : World} {a : Option Addr} {len cap : Nat} {zs : List Int}
    (h : (a = none ∧ len = 0 ∧ cap = 0 ∧ zs = []) ∨ ∃ x, a = some x ∧ len ≤ cap ∧ cap ≤ maxLen ∧ zs.length = cap ∧ (∀ i, i < zs.length → w.cell? (x.add i) = some (.int .u8 (zs.getD i 0))) ∧ ∀ n ∈ zs, (Lit.int .u8 n).wf = true) :
    Bytes w a len cap := by
  rcases h with ⟨rfl, rfl, rfl, rfl⟩ | ⟨x, rfl, h1, h2, h3, h4, h5⟩
  · exact ⟨Nat.le_refl _, Nat.zero_le _, .inl rfl⟩
  · refine ⟨h1, h2, ?_⟩
    by_cases h0 : len = 0
    · exact .inl h0
    · right
      obtain ⟨b, off, spot⟩ := x
      have hc := h4 0 (by omega)
      have hspot : spot = none := by simpa [Addr.add] using World.cell?_spot hc
      subst hspot
      have hb := World.block_lt_of_cell? _ _ hc
      refine ⟨b, off, rfl, by simpa [Addr.add] using hb, fun j hj => ?_⟩
      have h6 := h4 j (by omega)
      have hadd : (⟨b, off, none⟩ : Addr).add j = ⟨b, off + j, none⟩ := by unfold Addr.add; split <;> simp_all
      rw [hadd] at h6
      refine ⟨_, h6, ?_⟩
      have h7 := h5 (zs.getD j 0) (by simp [List.getD, show j < zs.length by omega])
      exact bounds_u8 h7
end Go.Proofs.YtgojdlbidjnmmaaGreat
namespace Go.Proofs.YtgojdlbidjnmmaaGreat
set_option linter.unusedSimpArgs false
set_option linter.unusedVariables false

/-- As long as nothing was told all have the level of all. -/
theorem told_none {c fs : Nat → Int} {base : Int} {k : Nat} (h : ∀ j, j < k → c j < 14) : told c fs base k = ⟨[⟨base, 0, false⟩], 0, 0⟩ := by
  induction k with
  | zero => rfl
  | succ k ih =>
    have hc := h k (by omega)
    simp only [told]
    rw [ih (fun j hj => h j (by omega))]
    have ho : opensB (c k) = false := by unfold opensB; simp; omega
    unfold stepT
    rw [ho, if_neg (by simp), if_neg (by omega), if_neg (by omega), if_neg (by omega), if_neg (by omega), if_neg (by omega), if_neg (by omega)]
theorem lvAt_none {c fs : Nat → Int} {base : Int} {k : Nat} (h : ∀ j, j < k → c j < 14) (ht : tellsB (c k) = false) : lvAt c fs base k = base := by
  unfold lvAt lvT
  rw [ht, if_neg (by simp), told_none h]
  unfold atT
  split
  · rfl
  · rfl
theorem tells_yes {c : Int} : tellsB c = true ↔ c = 10 ∨ (14 ≤ c ∧ c ≤ 18) := by unfold tellsB; exact decide_eq_true_iff
theorem tells_no {c : Int} : tellsB c = false ↔ ¬ (c = 10 ∨ (14 ≤ c ∧ c ≤ 18)) := by unfold tellsB; exact decide_eq_false_iff_not
theorem toldL_yes {l : List Int} {mt : Nat → Nat} {base : Int} (h : okT l base = true) : toldL l mt base = lvL (cl l) (fsF (cl l) mt) base l.length ∧ toldC l mt base = clL (cl l) (fsF (cl l) mt) base l.length := by
  unfold toldL toldC; rw [if_pos h, if_pos h]; exact ⟨rfl, rfl⟩
theorem toldL_no {l : List Int} {mt : Nat → Nat} {base : Int} (h : ¬ okT l base = true) : toldL l mt base = [] ∧ toldC l mt base = [] := by
  unfold toldL toldC; rw [if_neg h, if_neg h]; exact ⟨rfl, rfl⟩
/-- What is said of a letter. -/
theorem told_is {l : List Int} {mt : Nat → Nat} {base : Int} (h : okT l base = true) {k : Nat} (hk : k < l.length) :
    ((cl l k = 10 ∨ (14 ≤ cl l k ∧ cl l k ≤ 18)) ∧ fn (toldL l mt base) k = -1) ∨ (¬ (cl l k = 10 ∨ (14 ≤ cl l k ∧ cl l k ≤ 18)) ∧ 0 ≤ fn (toldL l mt base) k ∧ fn (toldL l mt base) k ≤ 20 ∧ ((∀ j, j < k → cl l j < 14) → fn (toldL l mt base) k = base)) := by
  obtain ⟨_, hb, _⟩ := okT_out h
  rw [(toldL_yes h).1, fn_lvL hk]
  rcases lvAt_bd (cl l) (fsF (cl l) mt) hb k with ⟨h1, h2⟩ | ⟨h1, h2, h3⟩
  · exact .inl ⟨tells_yes.1 h1, h2⟩
  · exact .inr ⟨tells_no.1 h1, by omega, h3, fun hj => lvAt_none hj h1⟩
end Go.Proofs.YtgojdlbidjnmmaaGreat
namespace Go.Proofs.YtgojdlbidjnmmaaGreat
open Go.ChangeShapes Go.WideShapes Go.ChangeAt Go.RowKit
set_option linter.unusedSimpArgs false
set_option linter.unusedVariables false

set_option maxHeartbeats 1000000 in
theorem drawLevels (a : Option Addr) (len cap : Nat) (w : World) (h : Bytes w a len cap) :
    Calls Tryz.prog 9 #[.slice a len cap] w fun e w' => (∃ v l b, e = .returned (.tuple #[v, .int .i64 b]) ∧ OwnI w' w.heap.size v l ∧ l.length ≤ 81) ∧ Below w.heap.size w w' := by
  go_enter Tryz.func9, Tryz.ntmps9
  go_wp2_with fail
  refine (drawTold a len cap w h).mono ?_
  rintro e w1 ⟨⟨v, l, b, rfl, o1, hlen⟩, b1⟩
  go_wp2_with fail
  go_ret2
  exact ⟨⟨v, l, b, rfl, o1, hlen⟩, b1⟩

set_option maxRecDepth 10000 in
set_option maxHeartbeats 8000000 in
theorem sideLaw (a : Option Addr) (len cap : Nat) (w : World) (h : Bytes w a len cap) :
    Calls Tryz.prog 4 #[.slice a len cap] w fun e w' => e = .returned (.bool true) ∧ Below w.heap.size w w' := by
  by_cases hbig : 1048576 < len
  · have hbig2 : (1048576 : Int) < (len : Int) := by omega
    go_enter Tryz.func4, Tryz.ntmps4
    go_wp2_with fail
    go_ret
    exact ⟨rfl, Below.refl _ _⟩
  · have hl2 : (len : Int) ≤ 1048576 := by omega
    go_enter Tryz.func4, Tryz.ntmps4
    go_wp2_with fail
    refine (drawLevels a len cap w h).mono ?_
    rintro e w1 ⟨⟨v, l, b, rfl, o1, hlen⟩, b1⟩
    obtain ⟨av, n, cv, rfl, hn⟩ := o1.slicZ
    have HN : Hid (l.length = n) := hn
    have hn81 : n ≤ 81 := by omega
    have HL6 : Hid (l.length ≤ 1048576) := show l.length ≤ 1048576 by omega
    obtain ⟨mt, hmt⟩ := mt_exists (cl l) l.length
    have HMT : Hid (MateFn (cl l) l.length mt) := hmt
    have hxl := levsR_le l mt b
    obtain ⟨X, hX⟩ : ∃ X, levsR l mt b = X := ⟨_, rfl⟩
    rw [hX] at hxl
    have HX : Hid (levsR l mt b = X) := hX
    have HX4 : Hid (X.length ≤ 4194304) := show X.length ≤ 4194304 by omega
    clear hn hX hmt
    go_wp2_with fail
    refine (implLevels _ l mt b _ av cv (by rw [HN.out]) o1.arg HL6.out HMT).mono ?_
    rintro e w2 ⟨⟨vx, rfl, ox2⟩, b2⟩
    rw [HX.out] at ox2
    have o2 := o1.below b2
    have B2 := bstep b1 b2
    go_wp2_with fail
    refine (specLevelsOf _ l mt b _ av cv (by rw [HN.out]) o2.arg HL6.out HMT).mono ?_
    rintro e w3 ⟨⟨v3, rfl, p3⟩, b3⟩
    rw [HX.out] at p3
    have o3 := o2.below b3
    have ox3 := ox2.below b3
    have B3 := bstep B2 b3
    go_wp2_with fail
    refine (wcInts_yes _ _ X _ ox3.arg p3.arg HX4.out).mono ?_
    rintro e w4 ⟨rfl, b4⟩
    have o4 := o3.below b4
    have ox4 := ox3.below b4
    have B4 := bstep B3 b4
    clear o1 o2 o3 ox2 ox3 p3 B2 B3 b1 b2 b3 b4
    obtain ⟨ax, nx, cx, rfl, hnx⟩ := ox4.slicZ
    have HNX : Hid (X.length = nx) := hnx
    have hnxn : nx ≤ n := by have := HN.out; omega
    clear hnx hxl
    by_cases hz : nx = 0
    · subst hz
      go_wp2_with fail
      refine (specLevelsOf _ l mt b _ av cv (by rw [HN.out]) o4.arg HL6.out HMT).mono ?_
      rintro e w5 ⟨⟨v5, rfl, p5⟩, b5⟩
      rw [HX.out] at p5
      go_wp2_with fail
      refine (wcInts_yes _ _ X _ (ox4.below b5).arg p5.arg HX4.out).mono ?_
      rintro e w6 ⟨rfl, b6⟩
      go_wp2_with fail
      go_ret
      exact ⟨rfl, bstep (bstep B4 b5) b6⟩
    · have hok : okT l b = true := by
        by_cases h : okT l b = true
        · exact h
        · exfalso
          have hx := HX.out
          unfold levsR at hx
          rw [if_neg h] at hx
          have := HNX.out
          rw [← hx] at this
          simp at this
          omega
      have hXF : X = levsF l mt b := by rw [← HX.out]; exact if_pos hok
      have hnn : nx = n := by rw [← HNX.out, hXF, levsF_len, HN.out]
      subst hnn
      have hTL := (toldL_yes (mt := mt) hok).1
      have HTX := levTxt hok HMT.out
      rw [HN.out] at HTX
      obtain ⟨T, hT⟩ : ∃ T, lvL (cl l) (fsF (cl l) mt) b nx = T := ⟨_, rfl⟩
      have hTl : T.length = nx := by rw [← hT, lvL_len]
      have HTL : Hid (toldL l mt b = T) := by unfold Hid; rw [hTL, HN.out, hT]
      have HIS : Hid (∀ k, k < nx → (fn T k < 0 ∧ fn X k < 0) ∨ (0 ≤ fn T k ∧ b ≤ fn X k ∧ fn T k ≤ fn X k ∧ fn X k ≤ fn T k + 2 ∧ ((∀ i, i < nx → cl l i ≠ 17 ∧ cl l i ≠ 18) → (cl l k = 2 ∨ cl l k = 3 → fn X k % 2 = 1) ∧ (cl l k = 1 ∨ cl l k = 4 ∨ cl l k = 7 → fn X k % 2 = 0)))) := fun k hk => by
        rw [hXF, ← hT]; exact side_ok HTX hk
      have HTLN : Hid (T.length = nx) := hTl
      have HTB : Hid (∀ j, fn T j ≤ 22) := by rw [← hT]; exact lvL_bd HTX.b01 nx
      clear hok hnxn hXF hTL HTX hT hTl
      have hnz : ((nx : Int) == 0) = false := by simp; omega
      go_wp2_with fail
      refine (implTold _ l mt b _ av cv (by rw [HN.out]) o4.arg HL6.out HMT).mono ?_
      rintro e w5 ⟨⟨vt, vc, rfl, ot5, _, _⟩, b5⟩
      rw [HTL.out] at ot5
      have o5 := o4.below b5
      have ox5 := ox4.below b5
      have B5 := bstep B4 b5
      obtain ⟨gt, ct, et, _⟩ := OwnI.form1 ot5 (fun e => by have := HTLN.out; rw [e] at this; simp at this; omega)
      rw [HTLN.out] at et
      subst et
      rcases o5.forms with ⟨e, _⟩ | ⟨gl, cl', e, _, hgl, _, _, _⟩
      · simp only [Value.slice.injEq] at e; omega
      simp only [Value.slice.injEq] at e
      obtain ⟨rfl, -, rfl⟩ := e
      rcases ox5.forms with ⟨e, _⟩ | ⟨gx, cxx, e, _, hgx, _, _, _⟩
      · simp only [Value.slice.injEq] at e; omega
      simp only [Value.slice.injEq] at e
      obtain ⟨rfl, -, rfl⟩ := e
      have HO5 : Hid (∀ W, Below w5.heap.size w5 W → ∀ k, k < nx → W.cell? ⟨gl, k, none⟩ = some (.int .i64 (fn l k)) ∧ W.cell? ⟨gx, k, none⟩ = some (.int .i64 (fn X k)) ∧ W.cell? ⟨gt, k, none⟩ = some (.int .i64 (fn T k))) := fun W hW k hk => ⟨(o5.below hW).cellN k hk, (ox5.below hW).cellN k hk, (ot5.below hW).cellN k hk⟩
      have HB5 : Hid (Below w.heap.size w w5) := B5
      clear o4 ox4 o5 ox5 ot5 B4 B5 b5
      go_wp2_with fail
      go_loopw [8, 9] (fun t i wr => ∃ (k : Nat) (q : Bool), k ≤ nx ∧ i = .int .i64 k ∧ t = .bool q ∧ Hid (q = false → ∀ j, j < k → cl l j ≠ 17 ∧ cl l j ≠ 18) ∧ Hid (Below w5.heap.size w5 wr)) (fun _ i _ => nx - (intOf i).toNat)
      case atStart => exact ⟨0, false, Nat.zero_le _, rfl, rfl, fun _ j hj => by omega, Below.refl _ _⟩
      case round =>
        obtain ⟨k, q, hk, rfl, rfl, hq, hbel⟩ := hrel
        rename World => wr
        by_cases hlt : k < nx
        · obtain ⟨cl1, _, _⟩ := HO5.out _ hbel.out k hlt
          obtain ⟨R, hR⟩ : ∃ R, fn l k = R := ⟨_, rfl⟩
          obtain ⟨c, hc⟩ : ∃ c, bidi R = c := ⟨_, rfl⟩
          have hcl : cl l k = c := by unfold cl; rw [hR, hc]
          rw [hR] at cl1
          have HCL : Hid (cl l k = c) := hcl
          have HBI : Hid (∀ W, Calls Tryz.prog 10 #[.int .i64 R] W fun e w' => e = .returned (.int .i64 c) ∧ Below W.heap.size W w') := fun W => by rw [← hc]; exact specBidi R W
          have HNXT : Hid (∀ q2 : Bool, (q2 = false → q = false ∧ c ≠ 17 ∧ c ≠ 18) → (q2 = false → ∀ j, j < k + 1 → cl l j ≠ 17 ∧ cl l j ≠ 18)) := fun q2 h1 h2 j hj => by
            obtain ⟨h3, h4⟩ := h1 h2
            by_cases e : j = k
            · subst e; rw [HCL.out]; exact h4
            · exact hq.out h3 j (by omega)
          clear hR hc hcl
          cases q
          · by_cases h17 : c = 17
            · subst h17
              go_wp2_with (go_at_call 10; refine (HBI.out _).mono ?_; rintro e w6 ⟨rfl, b6⟩; have B6 : Hid (Below wr.heap.size wr w6) := b6; clear b6)
              go_roundw
              case rel => exact ⟨k + 1, true, by omega, by go_num, rfl, HNXT.out true (fun e => by simp at e), bstep hbel.out B6.out⟩
              case measure => simp only [intOf]; omega
            · have hb17 : (c == 17) = false := by simpa using h17
              by_cases h18 : c = 18
              · subst h18
                go_wp2_with (go_at_call 10; refine (HBI.out _).mono ?_; rintro e w6 ⟨rfl, b6⟩; have B6 : Hid (Below wr.heap.size wr w6) := b6; clear b6)
                go_roundw
                case rel => exact ⟨k + 1, true, by omega, by go_num, rfl, HNXT.out true (fun e => by simp at e), bstep hbel.out B6.out⟩
                case measure => simp only [intOf]; omega
              · have hb18 : (c == 18) = false := by simpa using h18
                go_wp2_with (go_at_call 10; refine (HBI.out _).mono ?_; rintro e w6 ⟨rfl, b6⟩; have B6 : Hid (Below wr.heap.size wr w6) := b6; clear b6)
                go_roundw
                case rel => exact ⟨k + 1, false, by omega, by go_num, rfl, HNXT.out false (fun _ => by first | exact ⟨rfl, h17, h18⟩ | exact ⟨trivial, h17, h18⟩), bstep hbel.out B6.out⟩
                case measure => simp only [intOf]; omega
          · go_wp2_with (go_at_call 10; refine (HBI.out _).mono ?_; rintro e w6 ⟨rfl, b6⟩; have B6 : Hid (Below wr.heap.size wr w6) := b6; clear b6)
            go_roundw
            case rel => exact ⟨k + 1, true, by omega, by go_num, rfl, HNXT.out true (fun e => by simp at e), bstep hbel.out B6.out⟩
            case measure => simp only [intOf]; omega
        · have e : k = nx := by omega
          subst e
          have HOV : Hid (q = false → ∀ j, j < k → cl l j ≠ 17 ∧ cl l j ≠ 18) := hq.out
          have HB6 : Hid (Below w5.heap.size w5 wr) := hbel.out
          clear hq hbel
          go_wp2_with fail
          go_loopw [11] (fun i wy => ∃ p : Nat, p ≤ k ∧ i = .int .i64 p ∧ Hid (Below w5.heap.size w5 wy)) (fun i _ => k - (intOf i).toNat)
          case atStart => exact ⟨0, Nat.zero_le _, rfl, HB6.out⟩
          case round =>
            obtain ⟨p, hp, rfl, hby⟩ := hrel
            rename World => wy
            by_cases hpk : p < k
            · obtain ⟨cl1, cx1, ct1⟩ := HO5.out _ hby.out p hpk
              have his := HIS.out p hpk
              obtain ⟨R, hR⟩ : ∃ R, fn l p = R := ⟨_, rfl⟩
              obtain ⟨x, hx⟩ : ∃ x, fn X p = x := ⟨_, rfl⟩
              obtain ⟨t, ht⟩ : ∃ t, fn T p = t := ⟨_, rfl⟩
              obtain ⟨c, hc⟩ : ∃ c, bidi R = c := ⟨_, rfl⟩
              have hcl : cl l p = c := by unfold cl; rw [hR, hc]
              rw [hR] at cl1
              rw [hx] at cx1 his
              rw [ht] at ct1 his
              have ht22 : t ≤ 22 := by rw [← ht]; exact HTB.out p
              rw [hcl] at his
              have HBI : Hid (∀ W, Calls Tryz.prog 10 #[.int .i64 R] W fun e w' => e = .returned (.int .i64 c) ∧ Below W.heap.size W w') := fun W => by rw [← hc]; exact specBidi R W
              have HO6 : Hid (∀ W, Below wy.heap.size wy W → W.cell? ⟨gx, p, none⟩ = some (.int .i64 x) ∧ W.cell? ⟨gt, p, none⟩ = some (.int .i64 t)) := fun W hW => by rw [← hx, ← ht]; exact ⟨(HO5.out W (bstep hby.out hW) p hpk).2.1, (HO5.out W (bstep hby.out hW) p hpk).2.2⟩
              clear hR hx ht hc hcl
              rcases his with ⟨ht0, hx0⟩ | ⟨ht0, hbx, htx, hxt, hpar⟩
              · go_wp2_with (go_at_call 10; refine (HBI.out _).mono ?_; rintro e w6 ⟨rfl, b6⟩; obtain ⟨d1, d2⟩ := HO6.out _ b6; have B6 : Hid (Below wy.heap.size wy w6) := b6; clear b6)
                go_roundw
                case rel => exact ⟨p + 1, by omega, by go_num, bstep hby.out B6.out⟩
                case measure => simp only [intOf]; omega
              · have hx00 : ¬ x < 0 := by omega
                have hxb : ¬ x < b := by omega
                have hxt1 : ¬ x < t := by omega
                have hxt2 : ¬ t + 2 < x := by omega
                have hwt : IntKind.i64.wrap (t + 2) = t + 2 := by rw [IntKind.wrap_i64]; omega
                have HPAR : Hid (q = false → (c = 2 ∨ c = 3 → x % 2 = 1) ∧ (c = 1 ∨ c = 4 ∨ c = 7 → x % 2 = 0)) := fun e => hpar (HOV.out e)
                have htm : Int.tmod x 2 = x % 2 := Int.tmod_eq_emod_of_nonneg (by omega)
                clear hpar
                cases q
                · have hpar := HPAR.out rfl
                  clear HPAR
                  by_cases h2 : c = 2
                  · subst h2
                    have hm := hpar.1 (.inl rfl)
                    rw [hm] at htm
                    clear hpar hm
                    go_wp2_with (go_at_call 10; refine (HBI.out _).mono ?_; rintro e w6 ⟨rfl, b6⟩; obtain ⟨d1, d2⟩ := HO6.out _ b6; have B6 : Hid (Below wy.heap.size wy w6) := b6; clear b6)
                    go_roundw
                    case rel => exact ⟨p + 1, by omega, by go_num, bstep hby.out B6.out⟩
                    case measure => simp only [intOf]; omega
                  have hb2 : (c == 2) = false := by simpa using h2
                  by_cases h3 : c = 3
                  · subst h3
                    have hm := hpar.1 (.inr rfl)
                    rw [hm] at htm
                    clear hpar hm
                    go_wp2_with (go_at_call 10; refine (HBI.out _).mono ?_; rintro e w6 ⟨rfl, b6⟩; obtain ⟨d1, d2⟩ := HO6.out _ b6; have B6 : Hid (Below wy.heap.size wy w6) := b6; clear b6)
                    go_roundw
                    case rel => exact ⟨p + 1, by omega, by go_num, bstep hby.out B6.out⟩
                    case measure => simp only [intOf]; omega
                  have hb3 : (c == 3) = false := by simpa using h3
                  by_cases h1 : c = 1
                  · subst h1
                    have hm := hpar.2 (.inl rfl)
                    rw [hm] at htm
                    clear hpar hm
                    go_wp2_with (go_at_call 10; refine (HBI.out _).mono ?_; rintro e w6 ⟨rfl, b6⟩; obtain ⟨d1, d2⟩ := HO6.out _ b6; have B6 : Hid (Below wy.heap.size wy w6) := b6; clear b6)
                    go_roundw
                    case rel => exact ⟨p + 1, by omega, by go_num, bstep hby.out B6.out⟩
                    case measure => simp only [intOf]; omega
                  have hb1 : (c == 1) = false := by simpa using h1
                  by_cases h4 : c = 4
                  · subst h4
                    have hm := hpar.2 (.inr (.inl rfl))
                    rw [hm] at htm
                    clear hpar hm
                    go_wp2_with (go_at_call 10; refine (HBI.out _).mono ?_; rintro e w6 ⟨rfl, b6⟩; obtain ⟨d1, d2⟩ := HO6.out _ b6; have B6 : Hid (Below wy.heap.size wy w6) := b6; clear b6)
                    go_roundw
                    case rel => exact ⟨p + 1, by omega, by go_num, bstep hby.out B6.out⟩
                    case measure => simp only [intOf]; omega
                  have hb4 : (c == 4) = false := by simpa using h4
                  by_cases h7 : c = 7
                  · subst h7
                    have hm := hpar.2 (.inr (.inr rfl))
                    rw [hm] at htm
                    clear hpar hm
                    go_wp2_with (go_at_call 10; refine (HBI.out _).mono ?_; rintro e w6 ⟨rfl, b6⟩; obtain ⟨d1, d2⟩ := HO6.out _ b6; have B6 : Hid (Below wy.heap.size wy w6) := b6; clear b6)
                    go_roundw
                    case rel => exact ⟨p + 1, by omega, by go_num, bstep hby.out B6.out⟩
                    case measure => simp only [intOf]; omega
                  have hb7 : (c == 7) = false := by simpa using h7
                  clear hpar
                  go_wp2_with (go_at_call 10; refine (HBI.out _).mono ?_; rintro e w6 ⟨rfl, b6⟩; obtain ⟨d1, d2⟩ := HO6.out _ b6; have B6 : Hid (Below wy.heap.size wy w6) := b6; clear b6)
                  go_roundw
                  case rel => exact ⟨p + 1, by omega, by go_num, bstep hby.out B6.out⟩
                  case measure => simp only [intOf]; omega
                · clear HPAR
                  by_cases h2 : c = 2
                  · subst h2
                    go_wp2_with (go_at_call 10; refine (HBI.out _).mono ?_; rintro e w6 ⟨rfl, b6⟩; obtain ⟨d1, d2⟩ := HO6.out _ b6; have B6 : Hid (Below wy.heap.size wy w6) := b6; clear b6)
                    go_roundw
                    case rel => exact ⟨p + 1, by omega, by go_num, bstep hby.out B6.out⟩
                    case measure => simp only [intOf]; omega
                  have hb2 : (c == 2) = false := by simpa using h2
                  by_cases h3 : c = 3
                  · subst h3
                    go_wp2_with (go_at_call 10; refine (HBI.out _).mono ?_; rintro e w6 ⟨rfl, b6⟩; obtain ⟨d1, d2⟩ := HO6.out _ b6; have B6 : Hid (Below wy.heap.size wy w6) := b6; clear b6)
                    go_roundw
                    case rel => exact ⟨p + 1, by omega, by go_num, bstep hby.out B6.out⟩
                    case measure => simp only [intOf]; omega
                  have hb3 : (c == 3) = false := by simpa using h3
                  by_cases h1 : c = 1
                  · subst h1
                    go_wp2_with (go_at_call 10; refine (HBI.out _).mono ?_; rintro e w6 ⟨rfl, b6⟩; obtain ⟨d1, d2⟩ := HO6.out _ b6; have B6 : Hid (Below wy.heap.size wy w6) := b6; clear b6)
                    go_roundw
                    case rel => exact ⟨p + 1, by omega, by go_num, bstep hby.out B6.out⟩
                    case measure => simp only [intOf]; omega
                  have hb1 : (c == 1) = false := by simpa using h1
                  by_cases h4 : c = 4
                  · subst h4
                    go_wp2_with (go_at_call 10; refine (HBI.out _).mono ?_; rintro e w6 ⟨rfl, b6⟩; obtain ⟨d1, d2⟩ := HO6.out _ b6; have B6 : Hid (Below wy.heap.size wy w6) := b6; clear b6)
                    go_roundw
                    case rel => exact ⟨p + 1, by omega, by go_num, bstep hby.out B6.out⟩
                    case measure => simp only [intOf]; omega
                  have hb4 : (c == 4) = false := by simpa using h4
                  by_cases h7 : c = 7
                  · subst h7
                    go_wp2_with (go_at_call 10; refine (HBI.out _).mono ?_; rintro e w6 ⟨rfl, b6⟩; obtain ⟨d1, d2⟩ := HO6.out _ b6; have B6 : Hid (Below wy.heap.size wy w6) := b6; clear b6)
                    go_roundw
                    case rel => exact ⟨p + 1, by omega, by go_num, bstep hby.out B6.out⟩
                    case measure => simp only [intOf]; omega
                  have hb7 : (c == 7) = false := by simpa using h7
                  go_wp2_with (go_at_call 10; refine (HBI.out _).mono ?_; rintro e w6 ⟨rfl, b6⟩; obtain ⟨d1, d2⟩ := HO6.out _ b6; have B6 : Hid (Below wy.heap.size wy w6) := b6; clear b6)
                  go_roundw
                  case rel => exact ⟨p + 1, by omega, by go_num, bstep hby.out B6.out⟩
                  case measure => simp only [intOf]; omega
            · have e : p = k := by omega
              subst e
              go_wp2_with fail
              go_ret
              exact ⟨rfl, bstep HB5.out hby.out⟩
end Go.Proofs.YtgojdlbidjnmmaaGreat
