import Derived.Test.YtgojdlbidjnmmaaGreatAppendAll
import Derived.Laws.AppendOwnNone
namespace Go.Proofs.YtgojdlbidjnmmaaGreat
open Go.ChangeShapes Go.WideShapes Go.ChangeAt Go.RowKit
set_option linter.unusedSimpArgs false

/-- 'append(out, more...)', both rows of their own. -/
theorem own_appendOwn {ops : Array Oper} {rest : List Oper} {o : Oper} {a : Act} {Q : Exit → Act → World → Prop} {wr : World} {v vx : Value} {l m : List Int} {B B' : Nat} (s x : Operand) (hown : OwnI wr B v l) (hm : OwnI wr B' vx m) (hl : l.length + m.length ≤ 1073741824) (hB : B ≤ wr.heap.size)
    (hgd : o.guard = none) (ho : o.op = .call { callee := .builtin .append, args := #[s, x], argTypes := #[23, 23] }) (hs : a.eval s = v) (hx : a.eval x = vx)
    (h : ∀ v' w', OwnI w' B v' (l ++ m) → wr.grownBy w' v.ownBlock → wpList Tryz.prog ops Q rest (a.put o.dst v') w') :
    wpList Tryz.prog ops Q (o :: rest) a wr := by
  rcases hm.forms with ⟨rfl, rfl⟩ | ⟨g, cap, rfl, _, _, _, _, hat⟩
  · obtain ⟨i0, hi, _⟩ := info_parts infoI
    refine wpList_append_own_none hgd s x 23 ho B 3 i0 1 Tryz.underlying23 hi v l.length (l.map (Value.int .i64)) hs hown hx (h v wr (by rw [List.append_nil]; exact hown) ⟨rfl, rfl, rfl, Nat.le_refl _, fun _ _ _ => rfl⟩)
  · exact own_appendAll s x hown rfl hl hB hat hgd ho hs hx h
theorem own_lit1 (w : World) (B : Nat) (T : TypeId) (x : Int) (h : B ≤ w.heap.size) (hT : T = 3) : OwnI (w.alloc (.cells #[.int .i64 x] T)) B (.slice (some ⟨w.heap.size, 0, none⟩) 1 1) [x] := by
  subst hT
  exact ⟨by simp, .inr ⟨w.heap.size, 1, #[.int .i64 x], rfl, h, heap_alloc_new w _, by simp, by unfold maxLen; omega, by simp, by simp⟩⟩
theorem own_lit3 (w : World) (B : Nat) (T : TypeId) (x y z : Int) (h : B ≤ w.heap.size) (hT : T = 3) : OwnI (w.alloc (.cells #[.int .i64 x, .int .i64 y, .int .i64 z] T)) B (.slice (some ⟨w.heap.size, 0, none⟩) 3 3) [x, y, z] := by
  subst hT
  exact ⟨by simp, .inr ⟨w.heap.size, 3, #[.int .i64 x, .int .i64 y, .int .i64 z], rfl, h, heap_alloc_new w _, by simp, by unfold maxLen; omega, by simp, by simp⟩⟩
theorem own_app1 {ops : Array Oper} {rest : List Oper} {o : Oper} {a : Act} {Q : Exit → Act → World → Prop} {wr : World} {vx : Value} {m : List Int} {B' : Nat} {x0 : Int} (s x : Operand) (hm : OwnI wr B' vx m) (hl : m.length ≤ 1000)
    (hgd : o.guard = none) (ho : o.op = .call { callee := .builtin .append, args := #[s, x], argTypes := #[23, 23] }) (hs : a.eval s = .slice (some ⟨wr.heap.size, 0, none⟩) 1 1) (hx : a.eval x = vx)
    (h : ∀ v' w', OwnI w' wr.heap.size v' ([x0] ++ m) → Below wr.heap.size wr w' → wpList Tryz.prog ops Q rest (a.put o.dst v') w') :
    wpList Tryz.prog ops Q (o :: rest) a (wr.alloc (.cells #[.int .i64 x0] 3)) :=
  own_appendOwn s x (own_lit1 wr wr.heap.size 3 x0 (Nat.le_refl _) rfl) (World.ownsRow.alloc hm _) (by simp; omega) (by simp) hgd ho hs hx
    (fun v' w' h1 h2 => h v' w' h1 (((Below.refl _ _).alloc (Nat.le_refl _) _).grown h2 (by simp) (fun k hk => by simp [Value.ownBlock] at hk; omega)))
theorem own_app3 {ops : Array Oper} {rest : List Oper} {o : Oper} {a : Act} {Q : Exit → Act → World → Prop} {wr : World} {vx : Value} {m : List Int} {B' : Nat} {x0 x1 x2 : Int} (s x : Operand) (hm : OwnI wr B' vx m) (hl : m.length ≤ 1000)
    (hgd : o.guard = none) (ho : o.op = .call { callee := .builtin .append, args := #[s, x], argTypes := #[23, 23] }) (hs : a.eval s = .slice (some ⟨wr.heap.size, 0, none⟩) 3 3) (hx : a.eval x = vx)
    (h : ∀ v' w', OwnI w' wr.heap.size v' ([x0, x1, x2] ++ m) → Below wr.heap.size wr w' → wpList Tryz.prog ops Q rest (a.put o.dst v') w') :
    wpList Tryz.prog ops Q (o :: rest) a (wr.alloc (.cells #[.int .i64 x0, .int .i64 x1, .int .i64 x2] 3)) :=
  own_appendOwn s x (own_lit3 wr wr.heap.size 3 x0 x1 x2 (Nat.le_refl _) rfl) (World.ownsRow.alloc hm _) (by simp; omega) (by simp) hgd ho hs hx
    (fun v' w' h1 h2 => h v' w' h1 (((Below.refl _ _).alloc (Nat.le_refl _) _).grown h2 (by simp) (fun k hk => by simp [Value.ownBlock] at hk; omega)))
theorem OwnI.slic {w : World} {B : Nat} {v : Value} {l : List Int} (h : OwnI w B v l) : ∃ a n cap, v = .slice a n cap ∧ l.length = n := by
  rcases h.forms with ⟨rfl, rfl⟩ | ⟨g, cap, rfl, _⟩
  · exact ⟨_, _, _, rfl, rfl⟩
  · exact ⟨_, _, _, rfl, rfl⟩

end Go.Proofs.YtgojdlbidjnmmaaGreat
