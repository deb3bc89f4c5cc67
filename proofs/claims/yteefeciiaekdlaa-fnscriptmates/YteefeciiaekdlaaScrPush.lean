import Derived.Test.YteefeciiaekdlaaScrImpl
import Derived.Test.YteefeciiaekdlaaStepP
import Derived.Deep.DrawnRows
namespace Go.Proofs.Yteefeciiaekdlaa
open Go.ChangeShapes Go.WideShapes Go.ChangeAt Go.RowKit
set_option linter.unusedSimpArgs false
attribute [local go_sem ↓] Go.wp_at_zero Go.wp_at_succ

theorem RS.push {w W w9 : World} {R m : Nat} {last x y : Int} {v v9 : Value} {st : List Int} (h : RS w R last v m st) (hb : Below w.heap.size w W) (o9 : OwnP 70 w9 (R + 1) v9 (m + 1) (st ++ [x, y])) (g9 : W.grownBy w9 v.ownBlock) : w9.cell? ⟨R, 1, none⟩ = some v ∧ w9.frozen? ⟨R, 1, none⟩ = false ∧ RS (w9.setCell ⟨R, 1, none⟩ v9) R last v9 (m + 1) (st ++ [x, y]) ∧ Below R w (w9.setCell ⟨R, 1, none⟩ v9) := by
  have hne : some R ≠ v.ownBlock := fun e => by have := (h.row.lt R e.symm).1; omega
  have h1 := h.below hb
  have h2 : RS w9 R last v9 (m + 1) (st ++ [x, y]) → True := fun _ => trivial
  have hbl : w9.heap[R]? = some (.cells #[.int .i64 last, v] 51 (0, 0)) := (g9.block R h1.lt hne).trans h1.blk
  have hc := rs_cells hbl
  refine ⟨hc.2.1, hc.2.2.2, ⟨?_, o9.kept fun k hk => heap_setCell_other w9 ⟨R, 1, none⟩ k _ (by have := (o9.lt k hk).1; show k ≠ R; omega)⟩, ?_⟩
  · rw [heap_setCell_same w9 R 1 _ _ _ hbl]; simp
  · have := h.lt
    have b1 : Below R w W := hb.mono (by omega)
    exact (b1.grown g9 (by have := hb.size; omega) (fun k hk => by have := (h.row.lt k hk).1; omega)).setCell (Nat.le_refl _) _

theorem step_push {ops : Array Oper} {o : Oper} {a : Act} {K : Act → World → Prop} {Q : Exit → Act → World → Prop} {E : Prop} {w W : World} {R m : Nat} {last : Int} {v : Value} {st : List Int} {x0 x1 : Int} {ad : Nat} (s x : Operand) (hr : RS w R last v m st) (hl : m ≤ 1000) (hb : Below w.heap.size w W)
    (hc0 : W.cell? ⟨ad, 0, none⟩ = some (.int .i64 x0)) (hc1 : W.cell? ⟨ad, 1, none⟩ = some (.int .i64 x1))
    (hgd : o.guard = none) (ho : o.op = .call { callee := .builtin .append, args := #[s, x], argTypes := #[47, 47] }) (hs : a.eval s = v) (hx : a.eval x = .slice (some ⟨ad, 0, none⟩) 1 1)
    (h : ∀ g cp w', w'.cell? ⟨R, 1, none⟩ = some v → w'.frozen? ⟨R, 1, none⟩ = false → Hid (RS (w'.setCell ⟨R, 1, none⟩ (.slice (some ⟨g, 0, none⟩) (m + 1) cp)) R last (.slice (some ⟨g, 0, none⟩) (m + 1) cp) (m + 1) (st ++ [x0, x1])) → Hid (Below R w (w'.setCell ⟨R, 1, none⟩ (.slice (some ⟨g, 0, none⟩) (m + 1) cp))) → K (a.put o.dst (.slice (some ⟨g, 0, none⟩) (m + 1) cp)) w') :
    if Region.wanted o (yielded ops a.tmps) = true then Oper.wp Try.prog o a W K Q else E := by
  have := hr.lt
  have := hb.size
  refine step_ownP s x pairT_impl Try.underlying47 (hr.row.below hb) (by omega) (by omega) hc0 hc1 hgd ho hs hx ?_
  intro v' w' o9 g9
  obtain ⟨h1, h2, h3, h4⟩ := hr.push hb o9 g9
  rcases o9.forms with ⟨_, e⟩ | ⟨g, cp, rfl, _⟩
  · omega
  · exact h g cp w' h1 h2 h3 h4

set_option maxRecDepth 10000 in
set_option maxHeartbeats 2000000 in
theorem push_any (R m : Nat) (last x y : Int) (v : Value) (st : List Int) (w : World) (h : RS w R last v m st) (hm : m ≤ 1000) :
    Calls Try.prog 53 #[.pointer (some ⟨R, 1, none⟩), .agg #[.int .i64 x, .int .i64 y]] w fun e w' =>
      e = .returned (.tuple #[]) ∧ (∃ v', RS w' R last v' (m + 1) (st ++ [x, y])) ∧ Below R w w' := by
  have hR := h.lt
  have H : Hid (RS w R last v m st) := h
  have c1 := h.c1
  clear h
  go_enter Try.func53, Try.ntmps53
  go_wp2_with fail
  go_region_law (refine step_push (x0 := x) (x1 := y) (ad := w.heap.size + 1) (.tmp 8) (.tmp 10) H.out hm (by first | exact ((((Below.refl w.heap.size w).alloc (Nat.le_refl _) _).alloc (by simp) _).drew) | exact ((((Below.refl _ w).alloc (Nat.le_refl _) _).drew).alloc (by simp) _)) (by simp) (by simp) (by rfl) (by rfl) (by rfl) (by rfl) ?_; intro g9 cp9 w9 cc cf cr cb)
  all_goals (go_wp2_with fail; go_end0; exact ⟨rfl, ⟨_, cr.out⟩, cb.out⟩)
end Go.Proofs.Yteefeciiaekdlaa
