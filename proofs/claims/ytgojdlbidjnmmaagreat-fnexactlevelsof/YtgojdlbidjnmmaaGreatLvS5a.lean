import Derived.Test.YtgojdlbidjnmmaaGreatLvI2
namespace Go.Proofs.YtgojdlbidjnmmaaGreat
open Go.ChangeShapes Go.WideShapes Go.ChangeAt Go.RowKit Go.Deep
set_option linter.unusedSimpArgs false
set_option linter.unusedVariables false

theorem take_pick {r : List Nat} {X : List Int} {k : Nat} (h : k < r.length) : (pickL r X).take (k + 1) = (pickL r X).take k ++ [fn X (r.getD k 0)] := by
  have hk : k < (pickL r X).length := by rw [pickL_len]; exact h
  rw [List.take_add_one, List.getElem?_eq_getElem hk]
  simp [pickL, h]
section
variable {wx wr : World} {vc vs : Value} {lc ls : List Int} {xv : Int}
theorem litB (hbx : Below wr.heap.size wr wx) : Below wr.heap.size wr ((wx.drewN 1).alloc (.cells #[.int .i64 xv] 3)) :=
  (hbx.trans ((below_draws wx 1).mono hbx.size)).alloc hbx.size _
theorem litO (hVC : OwnI wx wr.heap.size vc lc) : OwnI ((wx.drewN 1).alloc (.cells #[.int .i64 xv] 3)) wr.heap.size vc lc := World.ownsRow.alloc (hVC.drewN 1) _
theorem litA (hbx : Below wr.heap.size wr wx) (hVC : OwnI wx wr.heap.size vc lc) (hVS : OwnI wx wr.heap.size vs ls) (hap : Apart vc vs) {V : World} (hV : ((wx.drewN 1).alloc (.cells #[.int .i64 xv] 3)).grownBy V vc.ownBlock) : Below wr.heap.size wr V ∧ OwnI V wr.heap.size vs ls :=
  ⟨(litB hbx).grown hV (litB hbx).size (fun b hb => (hVC.lt b hb).1), (litO hVS).apart hV hap⟩
theorem litL (w : World) : OwnI ((w.drewN 1).alloc (.cells #[.int .i64 xv] 3)) w.heap.size (.slice (some ⟨w.heap.size, 0, none⟩) 1 1) [xv] := by
  have h := heap_alloc_new (w.drewN 1) (.cells #[.int .i64 xv] 3)
  exact ⟨by simp, .inr ⟨w.heap.size, 1, #[.int .i64 xv], rfl, Nat.le_refl _, h, by simp, by unfold maxLen; omega, by simp, by simp⟩⟩
theorem litS (w : World) : ((w.drewN 1).alloc (.cells #[.int .i64 xv] 3)).heap.size = w.heap.size + 1 := by
  show ((w.drewN 1).heap.push _).size = _
  simp
theorem litP (hVS : OwnI wx wr.heap.size vs ls) (hap : Apart vc vs) {g7 c7 n7 : Nat} (h : vc.ownBlock = some g7 ∨ g7 = wx.heap.size + 1) : Apart (.slice (some ⟨g7, 0, none⟩) n7 c7) vs := by
  intro b h1 h2
  simp [Value.ownBlock] at h1
  subst h1
  rcases h with h | h
  · exact hap _ h h2
  · have := (hVS.lt _ h2).2; omega
end
end Go.Proofs.YtgojdlbidjnmmaaGreat
