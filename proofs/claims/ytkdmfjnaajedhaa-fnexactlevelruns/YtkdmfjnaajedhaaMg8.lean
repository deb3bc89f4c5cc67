import Derived.Test.YtkdmfjnaajedhaaMg3
import Derived.Test.YtkdmfjnaajedhaaMg6
import Derived.Test.YtkdmfjnaajedhaaMg7
import Derived.Test.YtkdmfjnaajedhaaMg4
import Derived.Laws.AppendOwnNone
namespace Go.Proofs.Ytkdmfjnaajedhaa
open Go.ChangeShapes Go.WideShapes Go.ChangeAt Go.RowKit
set_option linter.unusedSimpArgs false

set_option maxHeartbeats 4000000 in
theorem specBaseL (b off cap n : Nat) (l : List Int) (mt : Nat → Nat) (f t : Int) (from0 to0 : Nat) (w : World) (hn : l.length = n) (hb : b < w.heap.size) (hat : At w b off l) (hl : n ≤ 4194304) (hmt : Hid (MateFn (cl l) n mt)) (hf : f = (from0 : Int)) (ht : t = (to0 : Int)) (hfn : from0 ≤ n) (htn : to0 ≤ n) :
    Calls Try.prog 54 #[.slice (some ⟨b, off, none⟩) n cap, .int .i64 f, .int .i64 t] w fun e w' => e = .returned (.int .i64 (sideFrom (cl l) mt to0 from0)) ∧ Below w.heap.size w w' := by
  subst hf ht
  go_enter Try.func54, Try.ntmps54
  go_wp2
  go_loopw [7] (fun i wr => ∃ k : Nat, k ≤ n + 1 ∧ i = .int .i64 k ∧ Hid (sideFrom (cl l) mt to0 k = sideFrom (cl l) mt to0 from0) ∧ Below w.heap.size w wr) (fun i _ => n + 1 - (intOf i).toNat)
  case atStart => exact ⟨from0, by omega, rfl, rfl, Below.refl _ _⟩
  case round =>
    obtain ⟨k, hk, rfl, hS, hbel⟩ := hrel
    by_cases hlt : k < to0
    · have hcell : wr.cell? ⟨b, off + k, none⟩ = some (.int .i64 (fn l k)) := (hat.below hbel hb) k (by omega)
      have hkn : (k : Int) < (n : Int) := by omega
      obtain ⟨ck, hck⟩ : ∃ ck, cl l k = ck := ⟨_, rfl⟩
      have HCK : Hid (bidi (fn l k) = ck) := hck
      have HCK2 : Hid (cl l k = ck) := hck
      clear hck
      by_cases h1 : ck = 1
      · have h1b : (ck == 1) = true := by simpa using h1
        have HR : Hid _ := side_L (c := cl l) (mt := mt) hlt (by rw [HCK2.out]; exact h1)
        clear h1
        go_wp2_with (go_at_call 40; refine (specBidi _ _).mono ?_; rintro e w2 ⟨rfl, b2⟩; rw [HCK.out])
        go_ret
        exact ⟨retInt (by rw [← hS.out, HR.out]), bstep hbel b2⟩
      · have h1b : (ck == 1) = false := by simpa using h1
        by_cases h23 : ck = 2 ∨ ck = 3
        · have HR : Hid _ := side_R (c := cl l) (mt := mt) hlt (by rw [HCK2.out]; exact h1) (by rw [HCK2.out]; exact h23)
          by_cases h2 : ck = 2
          · have h2b : (ck == 2) = true := by simpa using h2
            clear h1 h23 h2
            go_wp2_with (go_at_call 40; refine (specBidi _ _).mono ?_; rintro e w2 ⟨rfl, b2⟩; rw [HCK.out])
            go_ret
            exact ⟨retInt (by rw [← hS.out, HR.out]), bstep hbel b2⟩
          · have h2b : (ck == 2) = false := by simpa using h2
            have h3b : (ck == 3) = true := by simp; omega
            clear h1 h23 h2
            go_wp2_with (go_at_call 40; refine (specBidi _ _).mono ?_; rintro e w2 ⟨rfl, b2⟩; rw [HCK.out])
            go_ret
            exact ⟨retInt (by rw [← hS.out, HR.out]), bstep hbel b2⟩
        · have h2b : (ck == 2) = false := by simp; omega
          have h3b : (ck == 3) = false := by simp; omega
          cases ho : opensB ck
          · have HR : Hid _ := side_other (c := cl l) (mt := mt) hlt (by rw [HCK2.out]; exact h1) (by rw [HCK2.out]; exact h23) (by rw [HCK2.out]; exact ho)
            clear h1 h23
            go_wp2_with (first | (go_at_call 40; refine (specBidi _ _).mono ?_; rintro e w2 ⟨rfl, b2⟩; rw [HCK.out]) | (go_at_call 64; refine (specOpens _ _).mono ?_; rintro e w3 ⟨rfl, rfl⟩))
            go_roundw
            case rel => exact ⟨k + 1, by omega, by go_num, show _ = _ by rw [← hS.out, HR.out], bstep hbel b2⟩
            case measure => simp only [intOf]; omega
          · have hop : opensB (cl l k) = true := by rw [HCK2.out]; exact ho
            have hg := mt_gt hmt.out (show k < n by omega) hop
            have HR : Hid _ := side_open (c := cl l) (mt := mt) hlt (by rw [HCK2.out]; exact h1) (by rw [HCK2.out]; exact h23) hop hg.1
            have HO : Hid _ := hop
            clear h1 h23 hop
            go_wp2_with (first | (go_at_call 40; refine (specBidi _ _).mono ?_; rintro e w2 ⟨rfl, b2⟩; rw [HCK.out]) | (go_at_call 64; refine (specOpens _ _).mono ?_; rintro e w3 ⟨rfl, rfl⟩) | (go_at_call 55; refine (specMateL b off cap n l mt _ k _ hn (Nat.lt_of_lt_of_le hb (bstep hbel b2).size) (hat.below (bstep hbel b2) hb) hl hmt rfl (by omega) HO.out).mono ?_; rintro e w4 ⟨rfl, b4⟩))
            go_roundw
            case rel => exact ⟨mt k + 1, by omega, by go_num, show _ = _ by rw [← hS.out, HR.out], bstep (bstep hbel b2) b4⟩
            case measure => simp only [intOf]; omega
    · have HR : Hid _ := side_end (c := cl l) (mt := mt) hlt
      go_wp2_with fail
      go_ret
      exact ⟨retInt (by rw [← hS.out, HR.out]), hbel⟩

set_option maxHeartbeats 4000000 in
theorem implSide (b off cap n gm om cm : Nat) (cs M : List Int) (c : Nat → Int) (mt : Nat → Nat) (f t : Int) (from0 to0 : Nat) (w : World) (hn : cs.length = n) (hMl : M.length = n) (hat : At w b off cs) (hatM : At w gm om M) (hl : n ≤ 4194304) (hc : Hid (∀ j, j < n → fn cs j = c j)) (hmt : Hid (MateFn c n mt)) (hsm : Hid (SameMates c n mt M)) (hf : f = (from0 : Int)) (ht : t = (to0 : Int)) (hfn : from0 ≤ n) (htn : to0 ≤ n) :
    Calls Try.prog 79 #[.slice (some ⟨b, off, none⟩) n cap, .slice (some ⟨gm, om, none⟩) n cm, .int .i64 f, .int .i64 t] w fun e w' => e = .returned (.int .i64 (sideFrom c mt to0 from0)) ∧ w' = w := by
  subst hf ht
  go_enter Try.func79, Try.ntmps79
  go_wp2
  go_loop [9] (fun i => ∃ k : Nat, k ≤ n + 1 ∧ i = .int .i64 k ∧ Hid (sideFrom c mt to0 k = sideFrom c mt to0 from0)) (fun i => n + 1 - (intOf i).toNat)
  case atStart => exact ⟨from0, by omega, rfl, rfl⟩
  case round =>
    obtain ⟨k, hk, rfl, hS⟩ := hrel
    by_cases hlt : k < to0
    · obtain ⟨ck, hck⟩ : ∃ ck, c k = ck := ⟨_, rfl⟩
      have hcell : w.cell? ⟨b, off + k, none⟩ = some (.int .i64 ck) := by
        rw [← hck, ← hc.out k (by omega)]; exact hat k (by omega)
      have hcm : w.cell? ⟨gm, om + k, none⟩ = some (.int .i64 (fn M k)) := hatM k (by omega)
      have hkn : (k : Int) < (n : Int) := by omega
      have HCK2 : Hid (c k = ck) := hck
      clear hck
      by_cases h1 : ck = 1
      · have h1b : (ck == 1) = true := by simpa using h1
        have HR : Hid _ := side_L (c := c) (mt := mt) hlt (by rw [HCK2.out]; exact h1)
        clear h1
        go_wp2_with fail
        go_ret
        exact ⟨retInt (by rw [← hS.out, HR.out]), rfl⟩
      · have h1b : (ck == 1) = false := by simpa using h1
        by_cases h23 : ck = 2 ∨ ck = 3
        · have HR : Hid _ := side_R (c := c) (mt := mt) hlt (by rw [HCK2.out]; exact h1) (by rw [HCK2.out]; exact h23)
          by_cases h2 : ck = 2
          · have h2b : (ck == 2) = true := by simpa using h2
            clear h1 h23 h2
            go_wp2_with fail
            go_ret
            exact ⟨retInt (by rw [← hS.out, HR.out]), rfl⟩
          · have h2b : (ck == 2) = false := by simpa using h2
            have h3b : (ck == 3) = true := by simp; omega
            clear h1 h23 h2
            go_wp2_with fail
            go_ret
            exact ⟨retInt (by rw [← hS.out, HR.out]), rfl⟩
        · have h2b : (ck == 2) = false := by simp; omega
          have h3b : (ck == 3) = false := by simp; omega
          cases ho : opensB ck
          · have HR : Hid _ := side_other (c := c) (mt := mt) hlt (by rw [HCK2.out]; exact h1) (by rw [HCK2.out]; exact h23) (by rw [HCK2.out]; exact ho)
            clear h1 h23
            go_wp2_with (go_at_call 58; refine (implOpens _ _).mono ?_; rintro e w3 ⟨rfl, rfl⟩)
            go_round
            case rel => exact ⟨k + 1, by omega, by go_num, show _ = _ by rw [← hS.out, HR.out]⟩
            case measure => simp only [intOf]; omega
          · have hop : opensB (c k) = true := by rw [HCK2.out]; exact ho
            have hg := mt_gt hmt.out (show k < n by omega) hop
            have HR : Hid _ := side_open (c := c) (mt := mt) hlt (by rw [HCK2.out]; exact h1) (by rw [HCK2.out]; exact h23) hop hg.1
            have hMk := hsm.out k (by omega) hop
            clear h1 h23 hop
            rcases hMk with ⟨m1, m2⟩ | ⟨m1, m2⟩
            · rw [m2] at hcm
              clear m2
              go_wp2_with (go_at_call 58; refine (implOpens _ _).mono ?_; rintro e w3 ⟨rfl, rfl⟩)
              go_round
              case rel => exact ⟨mt k + 1, by omega, by go_num, show _ = _ by rw [← hS.out, HR.out]⟩
              case measure => simp only [intOf]; omega
            · rw [m2] at hcm
              have HE : Hid (sideFrom c mt to0 from0 = 0) := by
                show sideFrom c mt to0 from0 = 0
                rw [← hS.out, HR.out, side_end (by omega)]
              clear m2 m1
              go_wp2_with (go_at_call 58; refine (implOpens _ _).mono ?_; rintro e w3 ⟨rfl, rfl⟩)
              go_ret
              exact ⟨retInt HE.out.symm, rfl⟩
    · have HR : Hid _ := side_end (c := c) (mt := mt) hlt
      go_wp2_with fail
      go_ret
      exact ⟨retInt (by rw [← hS.out, HR.out]), rfl⟩
end Go.Proofs.Ytkdmfjnaajedhaa
namespace Go.Proofs.Ytkdmfjnaajedhaa
open Go.ChangeShapes Go.WideShapes Go.ChangeAt Go.RowKit
set_option linter.unusedSimpArgs false

/-- 'append(out, more...)', out a row of its own, more a row that can be read. -/
theorem own_appendAll {ops : Array Oper} {rest : List Oper} {o : Oper} {a : Act} {Q : Exit → Act → World → Prop} {wr : World} {v : Value} {l m : List Int} {B b off k c : Nat} (s x : Operand) (hown : OwnI wr B v l) (hk : m.length = k) (hl : l.length + k ≤ 1073741824) (hB : B ≤ wr.heap.size) (hat : At wr b off m)
    (hgd : o.guard = none) (ho : o.op = .call { callee := .builtin .append, args := #[s, x], argTypes := #[22, 22] }) (hs : a.eval s = v) 
    (hx : a.eval x = .slice (some ⟨b, off, none⟩) k c)
    (h : ∀ v' w', OwnI w' B v' (l ++ m) → wr.grownBy w' v.ownBlock → wpList Try.prog ops Q rest (a.put o.dst v') w') :
    wpList Try.prog ops Q (o :: rest) a wr := by
  obtain ⟨i0, hi, hz0, hz1, hz2⟩ := info_parts infoI
  refine wpList_append_own _ hgd s x 22 ho B 3 i0 (.int .i64 0) 1 8 Try.underlying22 hi hz0 hz1 hz2 rfl (by decide) v l.length (l.map (Value.int .i64)) hs hown ⟨b, off, none⟩ k c (m.map (Value.int .i64)) hx (by simp [hk]) ?_ ?_ ?_ ?_ ?_ ?_
  · intro j u hj
    rw [List.getElem?_map] at hj
    cases hg : m[j]? with
    | none => rw [hg] at hj; cases hj
    | some y =>
      rw [hg] at hj
      simp at hj
      have hjm : j < m.length := by rcases Nat.lt_or_ge j m.length with h | h
                                    · exact h
                                    · rw [List.getElem?_eq_none h] at hg; cases hg
      have := hat j hjm
      have hadd : (⟨b, off, none⟩ : Addr).add j = ⟨b, off + j, none⟩ := by unfold Addr.add; split <;> simp_all
      rw [hadd, this, ← hj]
      rw [List.getElem?_eq_getElem hjm] at hg
      simp at hg
      rw [fn_get hjm, hg]
  · intro u hu; simp at hu; obtain ⟨y, _, rfl⟩ := hu; rfl
  · unfold maxLen; omega
  · omega
  · omega
  · intro v' w' h1 h2 _
    refine h v' w' ?_ h2
    unfold OwnI; rw [List.length_append, List.map_append, hk]; exact h1
end Go.Proofs.Ytkdmfjnaajedhaa
namespace Go.Proofs.Ytkdmfjnaajedhaa
open Go.ChangeShapes Go.WideShapes Go.ChangeAt Go.RowKit
set_option linter.unusedSimpArgs false

/-- 'append(out, more...)', both rows of their own. -/
theorem own_appendOwn {ops : Array Oper} {rest : List Oper} {o : Oper} {a : Act} {Q : Exit → Act → World → Prop} {wr : World} {v vx : Value} {l m : List Int} {B B' : Nat} (s x : Operand) (hown : OwnI wr B v l) (hm : OwnI wr B' vx m) (hl : l.length + m.length ≤ 1073741824) (hB : B ≤ wr.heap.size)
    (hgd : o.guard = none) (ho : o.op = .call { callee := .builtin .append, args := #[s, x], argTypes := #[22, 22] }) (hs : a.eval s = v) (hx : a.eval x = vx)
    (h : ∀ v' w', OwnI w' B v' (l ++ m) → wr.grownBy w' v.ownBlock → wpList Try.prog ops Q rest (a.put o.dst v') w') :
    wpList Try.prog ops Q (o :: rest) a wr := by
  rcases hm.forms with ⟨rfl, rfl⟩ | ⟨g, cap, rfl, _, _, _, _, hat⟩
  · obtain ⟨i0, hi, _⟩ := info_parts infoI
    refine wpList_append_own_none hgd s x 22 ho B 3 i0 1 Try.underlying22 hi v l.length (l.map (Value.int .i64)) hs hown hx (h v wr (by rw [List.append_nil]; exact hown) ⟨rfl, rfl, rfl, Nat.le_refl _, fun _ _ _ => rfl⟩)
  · exact own_appendAll s x hown rfl hl hB hat hgd ho hs hx h
theorem own_lit1 (w : World) (B : Nat) (T : TypeId) (x : Int) (h : B ≤ w.heap.size) (hT : T = 3) : OwnI (w.alloc (.cells #[.int .i64 x] T)) B (.slice (some ⟨w.heap.size, 0, none⟩) 1 1) [x] := by
  subst hT
  exact ⟨by simp, .inr ⟨w.heap.size, 1, #[.int .i64 x], rfl, h, heap_alloc_new w _, by simp, by unfold maxLen; omega, by simp, by simp⟩⟩
theorem own_lit3 (w : World) (B : Nat) (T : TypeId) (x y z : Int) (h : B ≤ w.heap.size) (hT : T = 3) : OwnI (w.alloc (.cells #[.int .i64 x, .int .i64 y, .int .i64 z] T)) B (.slice (some ⟨w.heap.size, 0, none⟩) 3 3) [x, y, z] := by
  subst hT
  exact ⟨by simp, .inr ⟨w.heap.size, 3, #[.int .i64 x, .int .i64 y, .int .i64 z], rfl, h, heap_alloc_new w _, by simp, by unfold maxLen; omega, by simp, by simp⟩⟩
theorem own_app1 {ops : Array Oper} {rest : List Oper} {o : Oper} {a : Act} {Q : Exit → Act → World → Prop} {wr : World} {vx : Value} {m : List Int} {B' : Nat} {x0 : Int} (s x : Operand) (hm : OwnI wr B' vx m) (hl : m.length ≤ 1000)
    (hgd : o.guard = none) (ho : o.op = .call { callee := .builtin .append, args := #[s, x], argTypes := #[22, 22] }) (hs : a.eval s = .slice (some ⟨wr.heap.size, 0, none⟩) 1 1) (hx : a.eval x = vx)
    (h : ∀ v' w', OwnI w' wr.heap.size v' ([x0] ++ m) → Below wr.heap.size wr w' → wpList Try.prog ops Q rest (a.put o.dst v') w') :
    wpList Try.prog ops Q (o :: rest) a (wr.alloc (.cells #[.int .i64 x0] 3)) :=
  own_appendOwn s x (own_lit1 wr wr.heap.size 3 x0 (Nat.le_refl _) rfl) (World.ownsRow.alloc hm _) (by simp; omega) (by simp) hgd ho hs hx
    (fun v' w' h1 h2 => h v' w' h1 (((Below.refl _ _).alloc (Nat.le_refl _) _).grown h2 (by simp) (fun k hk => by simp [Value.ownBlock] at hk; omega)))
theorem own_app3 {ops : Array Oper} {rest : List Oper} {o : Oper} {a : Act} {Q : Exit → Act → World → Prop} {wr : World} {vx : Value} {m : List Int} {B' : Nat} {x0 x1 x2 : Int} (s x : Operand) (hm : OwnI wr B' vx m) (hl : m.length ≤ 1000)
    (hgd : o.guard = none) (ho : o.op = .call { callee := .builtin .append, args := #[s, x], argTypes := #[22, 22] }) (hs : a.eval s = .slice (some ⟨wr.heap.size, 0, none⟩) 3 3) (hx : a.eval x = vx)
    (h : ∀ v' w', OwnI w' wr.heap.size v' ([x0, x1, x2] ++ m) → Below wr.heap.size wr w' → wpList Try.prog ops Q rest (a.put o.dst v') w') :
    wpList Try.prog ops Q (o :: rest) a (wr.alloc (.cells #[.int .i64 x0, .int .i64 x1, .int .i64 x2] 3)) :=
  own_appendOwn s x (own_lit3 wr wr.heap.size 3 x0 x1 x2 (Nat.le_refl _) rfl) (World.ownsRow.alloc hm _) (by simp; omega) (by simp) hgd ho hs hx
    (fun v' w' h1 h2 => h v' w' h1 (((Below.refl _ _).alloc (Nat.le_refl _) _).grown h2 (by simp) (fun k hk => by simp [Value.ownBlock] at hk; omega)))
theorem OwnI.slic {w : World} {B : Nat} {v : Value} {l : List Int} (h : OwnI w B v l) : ∃ a n cap, v = .slice a n cap ∧ l.length = n := by
  rcases h.forms with ⟨rfl, rfl⟩ | ⟨g, cap, rfl, _⟩
  · exact ⟨_, _, _, rfl, rfl⟩
  · exact ⟨_, _, _, rfl, rfl⟩

end Go.Proofs.Ytkdmfjnaajedhaa
