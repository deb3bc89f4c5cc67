import Derived.Test.YtobmdefklgkoiaaSpPS2
namespace Go.Proofs.Ytobmdefklgkoiaa
open Go.ChangeShapes Go.WideShapes Go.ChangeAt Go.RowKit
set_option linter.unusedSimpArgs false
set_option linter.unusedVariables false

theorem flatP_take (x : List (Int × Int)) (a : Nat) : flatP (x.take a) = (flatP x).take (a * 2) := by
  induction x generalizing a with
  | nil => simp [flatP]
  | cons y r ih =>
    obtain ⟨c, d⟩ := y
    cases a with
    | zero => simp [flatP]
    | succ a => rw [show (a + 1) * 2 = a * 2 + 1 + 1 by omega]; simp only [List.take_succ_cons, flatP, ih]
theorem flatP_drop (x : List (Int × Int)) (a : Nat) : flatP (x.drop a) = (flatP x).drop (a * 2) := by
  induction x generalizing a with
  | nil => simp [flatP]
  | cons y r ih =>
    obtain ⟨c, d⟩ := y
    cases a with
    | zero => simp [flatP]
    | succ a => rw [show (a + 1) * 2 = a * 2 + 1 + 1 by omega]; simp only [List.drop_succ_cons, flatP, ih]
theorem fn_takeP {l : List Int} {n j : Nat} (h : j < n) : fn (l.take n) j = fn l j := by simp [fn, List.getD, List.getElem?_take, h]
theorem fn_dropP (l : List Int) (n j : Nat) : fn (l.drop n) j = fn l (n + j) := by simp [fn, List.getD]
theorem below_row {w u : World} {B g N cap : Nat} {l : List Int} (h : OwnK w B (.slice (some ⟨g, 0, none⟩) N cap) N l) (hb : Below w.heap.size w u) : ∀ j, j < N * 2 → u.cell? ⟨g, j, none⟩ = some (.int .i64 (fn l j)) := fun j hj =>
  (hb.cell (p := ⟨g, j, none⟩) (h.lt g rfl).2).trans (h.cell j hj)

/-- 'out = append(out, l6Look{..})', and where it lies then. -/
theorem own_appendLo2 {ops : Array Oper} {rest : List Oper} {o : Oper} {a : Act} {Q : Exit → Act → World → Prop} {wr : World} {T : TypeId} {v : Value} {l : List Int} {B n : Nat} {x0 x1 : Int} (s x : Operand) (hown : OwnK wr B v n l) (hl : n ≤ 1048576) (hB : B ≤ wr.heap.size)
    (hgd : o.guard = none) (ho : o.op = .call { callee := .builtin .append, args := #[s, x], argTypes := #[63, 63] }) (hs : a.eval s = v) 
    (ad : Nat) (hx : a.eval x = .slice (some ⟨ad, 0, none⟩) 1 1) (had : ad = wr.heap.size)
    (h : ∀ v' w', OwnK w' B v' (n + 1) (l ++ [x0, x1]) → wr.grownBy w' v.ownBlock → Hid (v'.ownBlock = v.ownBlock ∨ v'.ownBlock = some (wr.heap.size + 1)) → wpList Try.prog ops Q rest (a.put o.dst v') w') :
    wpList Try.prog ops Q (o :: rest) a (wr.alloc (.cells #[.int .i64 x0, .int .i64 x1] T)) := by
  subst had
  obtain ⟨i0, hi, hz1, hz2⟩ : ∃ i, Try.prog.info? 74 = some i ∧ i.size = 2 ∧ i.bytes = 16 := by
    have := infoLo
    cases hh : Try.prog.info? 74 with
    | none => rw [hh] at this; cases this
    | some i => rw [hh] at this; simp at this; exact ⟨i, rfl, this⟩
  obtain ⟨z, hz0, hzc⟩ : ∃ z, i0.zero = some z ∧ z.cells.size = 2 := by
    have := infoLoz
    rw [hi] at this
    cases hh : i0.zero with
    | none => simp [hh] at this
    | some z => simp [hh] at this; exact ⟨z, rfl, this⟩
  refine wpList_append_own_at _ hgd s x 63 ho B 74 i0 z 2 16 Try.underlying63 hi hz0 hz1 hz2 hzc (by decide) v n (l.map (Value.int .i64)) hs (World.ownsRow.alloc hown _) ⟨wr.heap.size, 0, none⟩ 1 1 [.int .i64 x0, .int .i64 x1] hx rfl ?_ ?_ ?_ ?_ ?_ ?_
  · intro j u hj
    match j, hj with
    | 0, hj => simp at hj; subst hj; simp [Addr.add]
    | 1, hj => simp at hj; subst hj; simp [Addr.add]
  · intro u hu; simp at hu; rcases hu with rfl | rfl <;> rfl
  · unfold maxLen; omega
  · omega
  · simp; omega
  · intro v' w' h1 h2 _ h4
    refine h v' w' ?_ ?_ (by show _ ∨ _; simpa using h4)
    · unfold OwnK; rw [List.map_append]; exact h1
    · refine ⟨h2.os, h2.tape, h2.output, ?_, fun k hk hne => ?_⟩
      · have := h2.size; simp at this; omega
      · rw [h2.block k (by simp; omega) hne]; exact Below.heap_alloc wr _ k hk
/-- A look in a block of its own. -/
def LoBox (w : World) (G : Nat) (a : Int × Int) : Prop := w.heap[G]? = some (.cells #[.int .i64 a.1, .int .i64 a.2] 74 (0, 0))
theorem LoBox.cells {w : World} {G : Nat} {a : Int × Int} (h : LoBox w G a) : w.cell? ⟨G, 0, none⟩ = some (.int .i64 a.1) ∧ w.cell? ⟨G, 1, none⟩ = some (.int .i64 a.2) := by
  refine ⟨?_, ?_⟩ <;> simp [World.cell?, LoBox] at h ⊢ <;> simp [h]

set_option maxHeartbeats 400000 in
theorem specMoveUp (g cap N B : Nat) (x : List (Int × Int)) (a k : Nat) (w : World) (hv : OwnK w B (.slice (some ⟨g, 0, none⟩) N cap) N (flatP x)) (hx : x.length = N) (hN : N ≤ 80) (ha : a ≤ N) (hk : k ≤ 80) (hcap : N ≤ cap) (hcm : cap ≤ maxLen) :
    Calls Try.prog 44 #[.slice (some ⟨g, 0, none⟩) N cap, .int .i64 (a : Int), .int .i64 (k : Int)] w fun e w' => ∃ v', e = .returned v' ∧ OwnK w' w.heap.size v' (moveLk x a (k : Int)).length (flatP (moveLk x a (k : Int))) ∧ Below w.heap.size w w' := by
  have HAT : Hid (∀ u, Below w.heap.size w u → ∀ j, j < N * 2 → u.cell? ⟨g, j, none⟩ = some (.int .i64 (fn (flatP x) j))) := fun u hu => below_row hv hu
  have HE : Hid (OwnK (w.alloc (.cells #[] 74)) w.heap.size (.slice (some ⟨w.heap.size, 0, none⟩) 0 0) 0 []) := OwnK.emp w _ (Nat.le_refl _)
  have hT1 : (flatP (x.take a)).length = a * 2 := by rw [flatP_len, List.length_take]; omega
  have HT1 : Hid ((flatP (x.take a)).length = a * 2) := hT1
  have hac : a ≤ cap := by omega
  have haci : (a : Int) ≤ (cap : Int) := by omega
  obtain ⟨lk, hlk⟩ : ∃ lk, (if 0 < a then x.getD (a - 1) (10, 0) else (10, 0)) = lk := ⟨_, rfl⟩
  have HLK : Hid ((if 0 < a then x.getD (a - 1) (10, 0) else (10, 0)) = lk) := hlk
  clear hT1 hv hlk
  by_cases ha0 : a = 0
  · have ha0i : ¬ (0 : Int) < (a : Int) := by omega
    have ha0n : decide (0 < a) = false := by simp; omega
    have hlk0 : lk = (10, 0) := by rw [← HLK.out, if_neg (by omega)]
    have HL0 : Hid (lk = (10, 0)) := hlk0
    clear hlk0 ha0
    go_enter Try.func44, Try.ntmps44
    go_wp2_with (at_builtin; refine own_allK (m := flatP (x.take a)) (b := g) (off := 0) (k := a) (c := cap) (.tmp 23) (.tmp 26) HE.out HT1.out (by omega) (by simp) (fun j hj => ?_) rfl rfl rfl rfl ?_; (rw [Nat.zero_add, HAT.out _ (below_new _ _) _ (by omega), flatP_take, fn_takeP hj]); intro v9 w9 hown9 hgr9)
    have HB9 : Hid (Below w.heap.size w w9) := (below_new w _).grown hgr9 (by simp) (fun q hq => (OwnK.lt HE.out q hq).1)
    rw [Nat.zero_add, List.nil_append] at hown9
    obtain ⟨W5, hW5⟩ : ∃ W5, w9.alloc (.cells #[.int .i64 10, .int .i64 0] 74) = W5 := ⟨_, rfl⟩
    have HU0 : OwnK W5 w.heap.size v9 a (flatP (x.take a)) ∧ LoBox W5 w9.heap.size lk ∧ Below w.heap.size w W5 ∧ w.heap.size ≤ w9.heap.size ∧ ∀ z, v9.ownBlock = some z → z ≠ w9.heap.size := by
      rw [← hW5]
      exact ⟨World.ownsRow.alloc hown9 _, by rw [HL0.out]; exact World.alloc_heap_new w9 _, HB9.out.alloc HB9.out.size _, HB9.out.size, fun z hz => Nat.ne_of_lt (OwnK.lt hown9 z hz).2⟩
    rw [hW5]
    clear hW5
    obtain ⟨H, hH⟩ : ∃ H, w9.heap.size = H := ⟨_, rfl⟩
    have HU : Hid (OwnK W5 w.heap.size v9 a (flatP (x.take a)) ∧ LoBox W5 H lk ∧ Below w.heap.size w W5 ∧ w.heap.size ≤ H ∧ ∀ z, v9.ownBlock = some z → z ≠ H) := by rw [← hH]; exact HU0
    have HHN : Hid (H = w9.heap.size) := hH.symm
    rw [hH]
    clear hH hgr9 hown9
    go_wp2_with fail
    go_loopw [7, 9] (fun q i wr => ∃ (j : Nat), j ≤ k ∧ i = .int .i64 (j : Int) ∧ OwnK wr w.heap.size q (a + j) (flatP (x.take a ++ List.replicate j lk)) ∧ LoBox wr H lk ∧ Below w.heap.size w wr ∧ Hid (∀ z, q.ownBlock = some z → z ≠ H)) (fun _ i _ => k - (intOf i).toNat)
    case atStart => exact ⟨0, Nat.zero_le _, rfl, by simpa using HU.out.1, HU.out.2.1, HU.out.2.2.1, HU.out.2.2.2.2⟩
    case round =>
      obtain ⟨j, hj, rfl, hown, hbox, hbel, hnz⟩ := hrel
      have hsz := hbel.size
      by_cases hlt : j < k
      · have hji : (j : Int) < (k : Int) := by omega
        obtain ⟨d0, d1⟩ := hbox.cells
        have HBX : Hid (LoBox wr H lk) := hbox
        have HBE : Hid (Below w.heap.size w wr) := hbel
        have HOW : Hid (OwnK wr w.heap.size u7 (a + j) (flatP (x.take a ++ List.replicate j lk))) := hown
        clear hown hbox hbel
        go_wp2_with (at_builtin; refine own_appendLo2 (.tmp 41) (.tmp 43) HOW.out (by omega) hsz rfl rfl rfl _ rfl (by simp) ?_; intro v8 w8 hown8 hgr8 hob8)
        refine ⟨⟨j + 1, hlt, by simp, ?_, ?_, HBE.out.grown hgr8 hsz (fun q hq => (OwnK.lt HOW.out q hq).1), ?_⟩, by simp only [intOf]; omega⟩
        · rw [List.replicate_succ', ← List.append_assoc, flatP_app]
          exact hown8
        · exact (hgr8.block H (Array.getElem?_eq_some_iff.1 HBX.out).1 (fun e => hnz.out _ e.symm rfl)).trans HBX.out
        · intro z hz
          rcases hob8.out with e | e
          · rw [e] at hz; exact hnz.out z hz
          · rw [e] at hz; have := (Array.getElem?_eq_some_iff.1 HBX.out).1; simp at hz; omega
      · have e : j = k := by omega
        subst e
        have HBE : Hid (Below w.heap.size w wr) := hbel
        have HOW : Hid (OwnK wr w.heap.size u7 (a + j) (flatP (x.take a ++ List.replicate j lk))) := hown
        have hT2 : (flatP (x.drop a)).length = (N - a) * 2 := by rw [flatP_len, List.length_drop]; omega
        have HT2 : Hid ((flatP (x.drop a)).length = (N - a) * 2) := hT2
        have HML : Hid (moveLk x a (j : Int) = x.take a ++ List.replicate j lk ++ x.drop a ∧ (moveLk x a (j : Int)).length = a + j + (N - a)) := by
          have e1 : moveLk x a (j : Int) = x.take a ++ List.replicate j lk ++ x.drop a := by
            unfold moveLk
            rw [if_neg (by omega), HLK.out, Int.toNat_natCast, List.append_assoc]
          exact ⟨e1, by rw [e1]; simp; omega⟩
        clear hown hbel hT2
        by_cases hc : a = cap
        · have hcN : N - a = 0 := by omega
          have hdr : x.drop a = [] := List.drop_eq_nil_of_le (by omega)
          have HDR : Hid (x.drop a = []) := hdr
          subst hc
          clear hdr
          go_wp2_with (at_builtin; refine own_allK (m := []) (b := g) (off := 0) (k := 0) (c := 0) (.tmp 45) (.tmp 48) HOW.out rfl (by omega) hsz (fun i hi => by omega) rfl rfl rfl rfl ?_; intro v8 w8 hown8 hgr8)
          go_ret
          refine ⟨_, rfl, ?_, HBE.out.grown hgr8 hsz (fun q hq => (OwnK.lt HOW.out q hq).1)⟩
          rw [HML.out.2, HML.out.1, HDR.out, List.append_nil, hcN]
          simpa using hown8
        · have hlc : a < cap := by omega
          have hlci : (a : Int) < (cap : Int) := by omega
          go_wp2_with (at_builtin; refine own_allK (m := flatP (x.drop a)) (b := g) (off := a * 2) (k := N - a) (c := cap - a) (.tmp 45) (.tmp 48) HOW.out HT2.out (by omega) hsz (fun i hi => ?_) rfl rfl rfl rfl ?_; (rw [HAT.out _ HBE.out _ (by omega), flatP_drop, fn_dropP]); intro v8 w8 hown8 hgr8)
          go_ret
          refine ⟨_, rfl, ?_, HBE.out.grown hgr8 hsz (fun q hq => (OwnK.lt HOW.out q hq).1)⟩
          rw [HML.out.2, HML.out.1, flatP_app]
          exact hown8
  · obtain ⟨b, hb⟩ : ∃ b, a - 1 = b := ⟨_, rfl⟩
    have hap : 0 < a := by omega
    have hai : (0 : Int) < (a : Int) := by omega
    have hap1 : (a : Int) - 1 = (b : Int) := by omega
    have hgt : x[b]? = some lk := by
      rw [← HLK.out, if_pos (by omega), List.getD_eq_getElem?_getD, hb, List.getElem?_eq_getElem (by omega)]; rfl
    obtain ⟨_, q1, q2⟩ := fnP_some hgt
    have HZ : Hid (∀ u, Below w.heap.size w u → u.cell? ⟨g, b * 2, none⟩ = some (.int .i64 lk.1) ∧ u.cell? ⟨g, b * 2 + 1, none⟩ = some (.int .i64 lk.2)) := fun u hu => by
      have h1 := HAT.out u hu (b * 2) (by omega)
      have h2 := HAT.out u hu (b * 2 + 1) (by omega)
      rw [q1] at h1
      rw [q2] at h2
      exact ⟨h1, h2⟩
    have hbN : b < N := by omega
    have hbNi : (b : Int) < (N : Int) := by omega
    clear hgt q1 q2 ha0
    have HB : Hid (a - 1 = b) := hb
    go_enter Try.func44, Try.ntmps44
    go_wp2_with (at_builtin; refine own_allK (m := flatP (x.take a)) (b := g) (off := 0) (k := a) (c := cap) (.tmp 23) (.tmp 26) HE.out HT1.out (by omega) (by simp) (fun j hj => ?_) rfl rfl rfl rfl ?_; (rw [Nat.zero_add, HAT.out _ (below_new _ _) _ (by omega), flatP_take, fn_takeP hj]); intro v9 w9 hown9 hgr9; have hb9 := (below_new w (.cells #[] 74)).grown hgr9 (by simp) (fun q hq => (OwnK.lt HE.out q hq).1); have z0 := fun o => (HZ.out (w9.alloc o) (hb9.alloc hb9.size o)).1; have z1 := fun o => (HZ.out (w9.alloc o) (hb9.alloc hb9.size o)).2)
    have HB9 : Hid (Below w.heap.size w w9) := hb9
    rw [Nat.zero_add, List.nil_append] at hown9
    clear z0 z1 hb9 hap1 hb
    obtain ⟨W5, hW5⟩ : ∃ W5, w9.alloc (.cells #[.int .i64 lk.1, .int .i64 lk.2] 74) = W5 := ⟨_, rfl⟩
    have HU0 : OwnK W5 w.heap.size v9 a (flatP (x.take a)) ∧ LoBox W5 w9.heap.size lk ∧ Below w.heap.size w W5 ∧ w.heap.size ≤ w9.heap.size ∧ ∀ z, v9.ownBlock = some z → z ≠ w9.heap.size := by
      rw [← hW5]
      exact ⟨World.ownsRow.alloc hown9 _, World.alloc_heap_new w9 _, HB9.out.alloc HB9.out.size _, HB9.out.size, fun z hz => Nat.ne_of_lt (OwnK.lt hown9 z hz).2⟩
    rw [hW5]
    clear hW5
    obtain ⟨H, hH⟩ : ∃ H, w9.heap.size = H := ⟨_, rfl⟩
    have HU : Hid (OwnK W5 w.heap.size v9 a (flatP (x.take a)) ∧ LoBox W5 H lk ∧ Below w.heap.size w W5 ∧ w.heap.size ≤ H ∧ ∀ z, v9.ownBlock = some z → z ≠ H) := by rw [← hH]; exact HU0
    have HHN : Hid (H = w9.heap.size) := hH.symm
    rw [hH]
    clear hH hgr9 hown9
    go_wp2_with fail
    go_loopw [7, 9] (fun q i wr => ∃ (j : Nat), j ≤ k ∧ i = .int .i64 (j : Int) ∧ OwnK wr w.heap.size q (a + j) (flatP (x.take a ++ List.replicate j lk)) ∧ LoBox wr H lk ∧ Below w.heap.size w wr ∧ Hid (∀ z, q.ownBlock = some z → z ≠ H)) (fun _ i _ => k - (intOf i).toNat)
    case atStart => exact ⟨0, Nat.zero_le _, rfl, by simpa using HU.out.1, HU.out.2.1, HU.out.2.2.1, HU.out.2.2.2.2⟩
    case round =>
      obtain ⟨j, hj, rfl, hown, hbox, hbel, hnz⟩ := hrel
      have hsz := hbel.size
      by_cases hlt : j < k
      · have hji : (j : Int) < (k : Int) := by omega
        obtain ⟨d0, d1⟩ := hbox.cells
        have HBX : Hid (LoBox wr H lk) := hbox
        have HBE : Hid (Below w.heap.size w wr) := hbel
        have HOW : Hid (OwnK wr w.heap.size u7 (a + j) (flatP (x.take a ++ List.replicate j lk))) := hown
        clear hown hbox hbel
        go_wp2_with (at_builtin; refine own_appendLo2 (.tmp 41) (.tmp 43) HOW.out (by omega) hsz rfl rfl rfl _ rfl (by simp) ?_; intro v8 w8 hown8 hgr8 hob8)
        refine ⟨⟨j + 1, hlt, by simp, ?_, ?_, HBE.out.grown hgr8 hsz (fun q hq => (OwnK.lt HOW.out q hq).1), ?_⟩, by simp only [intOf]; omega⟩
        · rw [List.replicate_succ', ← List.append_assoc, flatP_app]
          exact hown8
        · exact (hgr8.block H (Array.getElem?_eq_some_iff.1 HBX.out).1 (fun e => hnz.out _ e.symm rfl)).trans HBX.out
        · intro z hz
          rcases hob8.out with e | e
          · rw [e] at hz; exact hnz.out z hz
          · rw [e] at hz; have := (Array.getElem?_eq_some_iff.1 HBX.out).1; simp at hz; omega
      · have e : j = k := by omega
        subst e
        have HBE : Hid (Below w.heap.size w wr) := hbel
        have HOW : Hid (OwnK wr w.heap.size u7 (a + j) (flatP (x.take a ++ List.replicate j lk))) := hown
        have hT2 : (flatP (x.drop a)).length = (N - a) * 2 := by rw [flatP_len, List.length_drop]; omega
        have HT2 : Hid ((flatP (x.drop a)).length = (N - a) * 2) := hT2
        have HML : Hid (moveLk x a (j : Int) = x.take a ++ List.replicate j lk ++ x.drop a ∧ (moveLk x a (j : Int)).length = a + j + (N - a)) := by
          have e1 : moveLk x a (j : Int) = x.take a ++ List.replicate j lk ++ x.drop a := by
            unfold moveLk
            rw [if_neg (by omega), HLK.out, Int.toNat_natCast, List.append_assoc]
          exact ⟨e1, by rw [e1]; simp; omega⟩
        clear hown hbel hT2
        by_cases hc : a = cap
        · have hcN : N - a = 0 := by omega
          have hdr : x.drop a = [] := List.drop_eq_nil_of_le (by omega)
          have HDR : Hid (x.drop a = []) := hdr
          subst hc
          clear hdr
          go_wp2_with (at_builtin; refine own_allK (m := []) (b := g) (off := 0) (k := 0) (c := 0) (.tmp 45) (.tmp 48) HOW.out rfl (by omega) hsz (fun i hi => by omega) rfl rfl rfl rfl ?_; intro v8 w8 hown8 hgr8)
          go_ret
          refine ⟨_, rfl, ?_, HBE.out.grown hgr8 hsz (fun q hq => (OwnK.lt HOW.out q hq).1)⟩
          rw [HML.out.2, HML.out.1, HDR.out, List.append_nil, hcN]
          simpa using hown8
        · have hlc : a < cap := by omega
          have hlci : (a : Int) < (cap : Int) := by omega
          go_wp2_with (at_builtin; refine own_allK (m := flatP (x.drop a)) (b := g) (off := a * 2) (k := N - a) (c := cap - a) (.tmp 45) (.tmp 48) HOW.out HT2.out (by omega) hsz (fun i hi => ?_) rfl rfl rfl rfl ?_; (rw [HAT.out _ HBE.out _ (by omega), flatP_drop, fn_dropP]); intro v8 w8 hown8 hgr8)
          go_ret
          refine ⟨_, rfl, ?_, HBE.out.grown hgr8 hsz (fun q hq => (OwnK.lt HOW.out q hq).1)⟩
          rw [HML.out.2, HML.out.1, flatP_app]
          exact hown8
end Go.Proofs.Ytobmdefklgkoiaa
