import Derived.Test.YtobmdefklgkoiaaDraw2A
namespace Go.Proofs.Ytobmdefklgkoiaa
open Go.ChangeShapes Go.WideShapes Go.ChangeAt Go.RowKit
set_option linter.unusedSimpArgs false

theorem Went.refl {w : World} {R p : Nat} (h : Rd w R p) : Went w w R p := ⟨h, ⟨rfl, rfl, rfl, Nat.le_refl _, fun _ _ _ => rfl⟩⟩
theorem Went.trans {a b c : World} {R p q : Nat} (h : Went a b R p) (k : Went b c R q) : Went a c R q := ⟨k.rd, grown_trans h.gr k.gr⟩
theorem Went.own {w wr w1 : World} {R p B : Nat} {v : Value} {l : List Int} (h : Went w wr R p) (hg : wr.grownBy w1 v.ownBlock) (ho : OwnI wr B v l) (hB : w.heap.size ≤ B) (hR : R < w.heap.size) : Went w w1 R p :=
  ⟨h.rd.beside hg (fun k hk => by have := (ho.lt k hk).1; omega), grown_own h.gr hg (fun k hk => by have := (ho.lt k hk).1; omega)⟩
theorem Went.below {w w' : World} {R p B : Nat} (h : Went w w' R p) (hB : B ≤ R) (hR : R < w.heap.size) : Below B w w' :=
  ⟨h.gr.os, h.gr.tape, h.gr.output, h.gr.size, fun k hk => h.gr.block k (by omega) (fun e => by simp at e; omega)⟩

def lenOf : Value → Nat
  | .slice _ n _ => n
  | _ => 0

end Go.Proofs.Ytobmdefklgkoiaa
