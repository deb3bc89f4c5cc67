import Derived.Shelf.SlSortCmp.Whole1
import Derived.Shelf.Small.Bits
import Derived.Shelf.Strconv.Itoa0
import Derived.Ground.SlsfProg
import Derived.Shelf.SlSortCmp.Insertion
import Derived.Shelf.SlSortCmp.SiftDown1
import Derived.Shelf.SlSortCmp.HeapSort1
import Derived.Shelf.SlSortCmp.Insertion1
import Derived.Shelf.SlSortCmp.Median1
import Derived.Shelf.SlSortCmp.Pivot1
import Derived.Shelf.SlSortCmp.ReverseRange1
import Derived.Shelf.SlSortCmp.PartialInsertion1
import Derived.Shelf.SlSortCmp.PartitionEqual1
import Derived.Shelf.SlSortCmp.Partition1
import Derived.Shelf.SlSortCmp.Pdq1
import Derived.Test.YtgojdlbidjnmmaaGreatProg
import Derived.Deep.QuietTactic
import Derived.BigQuiet
import Derived.Test.YtgojdlbidjnmmaaGreatPk6
namespace Go.Proofs.YtgojdlbidjnmmaaGreat
open Go.ChangeShapes Go.WideShapes Go.ChangeAt Go.RowKit
set_option linter.unusedSimpArgs false
set_option linter.unusedVariables false

theorem OwnI.slicZ {w : World} {B : Nat} {v : Value} {l : List Int} (h : OwnI w B v l) : ∃ a n cap, v = .slice a n cap ∧ l.length = n := by
  rcases h.forms with ⟨rfl, rfl⟩ | ⟨g, cap, rfl, _⟩
  · exact ⟨_, _, _, rfl, rfl⟩
  · exact ⟨_, _, _, rfl, rfl⟩
theorem own_lit2 (w : World) (B : Nat) (T : TypeId) (x y : Int) (h : B ≤ w.heap.size) (hT : T = 3) : OwnI (w.alloc (.cells #[.int .i64 x, .int .i64 y] T)) B (.slice (some ⟨w.heap.size, 0, none⟩) 2 2) [x, y] := by
  subst hT
  exact ⟨by simp, .inr ⟨w.heap.size, 2, #[.int .i64 x, .int .i64 y], rfl, h, heap_alloc_new w _, Nat.le_refl _, by unfold maxLen; omega, rfl, rfl⟩⟩
/-- Pairs that were found, and what is open. -/
structure BS (w : World) (B : Nat) (v vo : Value) (zs : List (Value × List Int)) (O : List Nat) : Prop where
  rz : RZ w B v zs
  op : OwnI w B vo (natL O)
  ap : Apart v vo
  apz : ∀ q ∈ zs, Apart q.1 vo
section
variable {w w' : World} {B : Nat} {v vo v' vo' : Value} {zs : List (Value × List Int)} {O : List Nat}
theorem BS.below (h : BS w B v vo zs O) (hb : Below w.heap.size w w') : BS w' B v vo zs O := ⟨h.rz.below hb, h.op.below hb, h.ap, h.apz⟩
theorem BS.push {x : Nat} (h : BS w B v vo zs O) (ho : OwnI w' B vo' (natL (O ++ [x]))) (hg : w.grownBy w' vo.ownBlock) (hv : vo'.ownBlock = vo.ownBlock ∨ vo'.ownBlock = some (w.heap.size + 1)) : BS w' B v vo' zs (O ++ [x]) := by
  refine ⟨h.rz.kept fun b hb => ?_, ho, ?_, fun q hq => ?_⟩
  · rcases hb with hb | ⟨q, hq, hb⟩
    · exact hg.block b (h.rz.lt b hb).2 (fun e => h.ap b hb e.symm)
    · exact hg.block b ((h.rz.row q hq).lt b hb).2 (fun e => h.apz q hq b hb e.symm)
  · intro b h1 h2
    rcases hv with e | e
    · exact h.ap b h1 (by rw [← e]; exact h2)
    · rw [h2] at e; simp at e; have := (h.rz.lt b h1).2; omega
  · intro b h1 h2
    rcases hv with e | e
    · exact h.apz q hq b h1 (by rw [← e]; exact h2)
    · rw [h2] at e; simp at e; have := ((h.rz.row q hq).lt b h1).2; omega
theorem natL_take (l : List Nat) (q : Nat) : (natL l).take q = natL (l.take q) := by simp [natL, List.map_take]
theorem BS.cut {g n cap q : Nat} (h : BS w B v (.slice (some ⟨g, 0, none⟩) n cap) zs O) (hq : q ≤ n) : BS w B v (.slice (some ⟨g, 0, none⟩) q cap) zs (O.take q) :=
  ⟨h.rz, by rw [← natL_take]; exact h.op.take hq, h.ap, h.apz⟩
/-- One pair more. -/
theorem BS.into {vp : Value} {x : List Int} {zs' : List (Value × List Int)} (h : BS w B v vo zs O) (hb : Below w.heap.size w w') (hz : RZ w' B v' zs') (hv : ∀ k, v'.ownBlock = some k → w.heap.size ≤ k) (hvp : ∀ k, vp.ownBlock = some k → w.heap.size ≤ k) (hp : zs'.Perm ((vp, x) :: zs)) : BS w' B v' vo zs' O := by
  refine ⟨hz, h.op.below hb, fun k h1 h2 => ?_, fun q hq k h1 h2 => ?_⟩
  · have := hv k h1; have := (h.op.lt k h2).2; omega
  · have := hp.mem_iff.1 hq
    simp at this
    rcases this with rfl | hq2
    · have := hvp k h1; have := (h.op.lt k h2).2; omega
    · exact h.apz q hq2 k h1 h2
end
theorem stB_succ {l c : Nat → Int} {mate : Int → Int} {k : Nat} {O : List Nat} {P : List (Nat × Nat)} {m x cc : Int} (h : stB l c mate k = (O, P)) (hm : mate x = m) (hx : l k = x) (hc : c k = cc) :
    stB l c mate (k + 1) = if m = 0 ∨ cc ≠ 13 then (O, P) else if x < m then (O ++ [k], P) else shutB l m k O P (scanF l O m O.length) := by
  show stepB l c mate k (stB l c mate k).1 (stB l c mate k).2 = _
  rw [h]; subst hx; subst hc; subst hm; rfl
end Go.Proofs.YtgojdlbidjnmmaaGreat
namespace Go.Proofs.YtgojdlbidjnmmaaGreat
open Go.ChangeShapes Go.WideShapes Go.ChangeAt Go.RowKit
set_option linter.unusedSimpArgs false
set_option linter.unusedVariables false

/-- What the world is behind a sort of a row that is one's own. -/
theorem sorted_world {α : Type} [Inhabited α] {enc : α → Value} {T : TypeId} {w : World} {g n cap B N : Nat} {xs : List Value} {d' : Array α} {os : Array Obj} (h : OwnV T 1 w B (.slice (some ⟨g, 0, none⟩) N cap) N xs) (hd : d'.size = N) :
    OwnV T 1 (sortWorld enc w g 0 n d' os) B (.slice (some ⟨g, 0, none⟩) N cap) N (d'.toList.map enc) ∧ w.heap.size ≤ (sortWorld enc w g 0 n d' os).heap.size ∧ ∀ b, b < w.heap.size → b ≠ g → (sortWorld enc w g 0 n d' os).heap[b]? = w.heap[b]? := by
  have hsz : (Go.Sort.putRow enc (Go.Sort.ahead w n) g 0 d').heap.size = w.heap.size := by simp [Go.Sort.ahead]
  have hheap : (sortWorld enc w g 0 n d' os).heap = (Go.Sort.putRow enc (Go.Sort.ahead w n) g 0 d').heap ++ os := rfl
  refine ⟨⟨by simp [hd], .inr ?_⟩, by rw [hheap, Array.size_append, hsz]; omega, fun b hb hne => ?_⟩
  · rcases h.2 with ⟨e, _⟩ | ⟨g', cap', cur, e, h2, h3, h4, h5, h6, h7⟩
    · cases e
    · simp only [Value.slice.injEq, Option.some.injEq, Addr.mk.injEq] at e
      obtain ⟨⟨rfl, _⟩, _, rfl⟩ := e
      have hg : g < w.heap.size := (Array.getElem?_eq_some_iff.1 h3).1
      refine ⟨g, cap, Go.Sort.putCells enc 0 d' cur, rfl, h2, ?_, h4, h5, by simp [Go.Sort.putCells, h6], ?_⟩
      · rw [hheap, Array.getElem?_append_left (by rw [hsz]; exact hg)]
        simp [Go.Sort.putRow, Go.Sort.mapBlock, Go.Sort.ahead, Array.getElem?_modify, h3, Go.Sort.onCells]
      · apply List.ext_getElem
        · simp [Go.Sort.putCells, h6, hd]; omega
        · intro j hj1 hj2
          have hj : j < d'.size := by simpa using hj2
          simp [Go.Sort.putCells, hj]
  · rw [hheap, Array.getElem?_append_left (by rw [hsz]; exact hb)]
    have hne2 : ¬ g = b := fun e => hne e.symm
    simp [Go.Sort.putRow, Go.Sort.mapBlock, Go.Sort.ahead, Array.getElem?_modify, hne2]
/-- The same rows in another order. -/
theorem RZ.perm {w w' : World} {B : Nat} {v : Value} {zs zs' : List (Value × List Int)} (h : RZ w B v zs) (hp : zs'.Perm zs) (ho : OwnV 23 1 w' B v zs'.length (zs'.map (·.1))) (hk : ∀ b, b < w.heap.size → v.ownBlock ≠ some b → w'.heap[b]? = w.heap[b]?) : RZ w' B v zs' :=
  ⟨ho, fun q hq => (h.row q (hp.mem_iff.1 hq)).kept (fun b hb => hk b ((h.row q (hp.mem_iff.1 hq)).lt b hb).2 (fun e => h.apv q (hp.mem_iff.1 hq) b e hb)), fun q hq => h.apv q (hp.mem_iff.1 hq), hp.symm.pairwise h.pw (fun h => h.symm)⟩
end Go.Proofs.YtgojdlbidjnmmaaGreat
/-
  DERIVED: THE SHELF's CONTRACTS AT THIS DUMP, IN PLAIN WORDS (tools/lay-plain.mjs out of 'TryzShelf.lean', which tools/lay-shelf.mjs wrote): THE SAME DECLARATIONS UNDER THE SAME NAMES: 'import', 'namespace', 'open', 'def', 'theorem' AND NOTHING ELSE: no command of the shelf's: FOR A HAND-IN. Each laying: the table of numbers ('.._ren') and one theorem, a field a fact of the dump's own or the kernel's comparison; each contract: ONE APPLICATION.
-/
namespace Go.Proofs
open Go.Shelf
def Tryz.lays128_ren : Go.Shelf.Ren := ⟨fun | 128 => 152 | n => n, fun | 51 => 130 | 3 => 3 | 4 => 4 | 46 => 118 | 5 => 5 | 9 => 9 | n => n, fun | n => n⟩
theorem Tryz.lays128 : Go.Proofs.Lays.n128 Tryz.prog Tryz.lays128_ren := {
  mixed := by kernel_rfl
  f128 := Tryz.func152.trans (congrArg some (by kernel_rfl))
  t3 := Tryz.underlying3
  a3 := Tryz.isAgg3
  z3 := Tryz.sizeOf3
  v3 := Tryz.zeroValue3
  t4 := Tryz.underlying4
  a4 := Tryz.isAgg4
  z4 := Tryz.sizeOf4
  v4 := Tryz.zeroValue4
  t5 := Tryz.underlying5
  a5 := Tryz.isAgg5
  z5 := Tryz.sizeOf5
  v5 := Tryz.zeroValue5
  t9 := Tryz.underlying9
  a9 := Tryz.isAgg9
  z9 := Tryz.sizeOf9
  v9 := Tryz.zeroValue9
  t46 := Tryz.underlying118
  a46 := Tryz.isAgg118
  z46 := Tryz.sizeOf118
  v46 := Tryz.zeroValue118
  t51 := Tryz.underlying130
  a51 := Tryz.isAgg130
  z51 := Tryz.sizeOf130
  v51 := Tryz.zeroValue130 }
/-- bits.Len32: "Len32 returns the minimum number of bits required to represent x; the result is 0 for x == 0.": IT RETURNS 'Lib.bitLen x'; the world is as it was. ('h0', 'h1': x is a uint32.) (LAID: no walk: one application.) -/
theorem Tryz.bits_Len32 (x : Int) (w : World) (h0 : 0 ≤ x) (h1 : x ≤ 4294967295) :
    Calls Tryz.prog 152 #[.int .u32 x] w fun e w' => e = .returned (.int .i64 (Lib.bitLen x.toNat)) ∧ w' = w := Any.bits_Len32 Tryz.lays128 x w h0 h1
def Tryz.lays125_ren : Go.Shelf.Ren := ⟨fun | 125 => 137 | 128 => 152 | 129 => 153 | n => n, fun | 46 => 118 | 3 => 3 | 51 => 130 | 53 => 132 | 4 => 4 | 5 => 5 | 9 => 9 | n => n, fun | n => n⟩
theorem Tryz.lays125 : Go.Proofs.Lays.n125 Tryz.prog Tryz.lays125_ren := {
  mixed := by kernel_rfl
  f125 := Tryz.func137.trans (congrArg some (by kernel_rfl))
  f128 := Tryz.func152.trans (congrArg some (by kernel_rfl))
  f129 := Tryz.func153.trans (congrArg some (by kernel_rfl))
  t3 := Tryz.underlying3
  a3 := Tryz.isAgg3
  z3 := Tryz.sizeOf3
  v3 := Tryz.zeroValue3
  t4 := Tryz.underlying4
  a4 := Tryz.isAgg4
  z4 := Tryz.sizeOf4
  v4 := Tryz.zeroValue4
  t5 := Tryz.underlying5
  a5 := Tryz.isAgg5
  z5 := Tryz.sizeOf5
  v5 := Tryz.zeroValue5
  t9 := Tryz.underlying9
  a9 := Tryz.isAgg9
  z9 := Tryz.sizeOf9
  v9 := Tryz.zeroValue9
  t46 := Tryz.underlying118
  a46 := Tryz.isAgg118
  z46 := Tryz.sizeOf118
  v46 := Tryz.zeroValue118
  t51 := Tryz.underlying130
  a51 := Tryz.isAgg130
  z51 := Tryz.sizeOf130
  v51 := Tryz.zeroValue130
  t53 := Tryz.underlying132
  a53 := Tryz.isAgg132
  z53 := Tryz.sizeOf132
  v53 := Tryz.zeroValue132 }
/-- bits.Len: "Len returns the minimum number of bits required to represent x; the result is 0 for x == 0.": IT RETURNS 'Lib.bitLen x'; the world is as it was. (A uint has 64 bits in the model.) ITS CALLEE bits.Len64 IS MET BY ITS OWN CONTRACT OFF THE SHELF (lay that first). (LAID: no walk: one application.) -/
theorem Tryz.bits_Len (x : Int) (w : World) (h0 : 0 ≤ x) (h1 : x ≤ 18446744073709551615) :
    Calls Tryz.prog 137 #[.int .u64 x] w fun e w' => e = .returned (.int .i64 (Lib.bitLen x.toNat)) ∧ w' = w := Any.bits_Len Tryz.lays125 x w h0 h1
def Tryz.lays129_ren : Go.Shelf.Ren := ⟨fun | 129 => 153 | n => n, fun | 53 => 132 | 3 => 3 | 4 => 4 | 46 => 118 | 5 => 5 | 9 => 9 | n => n, fun | n => n⟩
theorem Tryz.lays129 : Go.Proofs.Lays.n129 Tryz.prog Tryz.lays129_ren := {
  mixed := by kernel_rfl
  f129 := Tryz.func153.trans (congrArg some (by kernel_rfl))
  t3 := Tryz.underlying3
  a3 := Tryz.isAgg3
  z3 := Tryz.sizeOf3
  v3 := Tryz.zeroValue3
  t4 := Tryz.underlying4
  a4 := Tryz.isAgg4
  z4 := Tryz.sizeOf4
  v4 := Tryz.zeroValue4
  t5 := Tryz.underlying5
  a5 := Tryz.isAgg5
  z5 := Tryz.sizeOf5
  v5 := Tryz.zeroValue5
  t9 := Tryz.underlying9
  a9 := Tryz.isAgg9
  z9 := Tryz.sizeOf9
  v9 := Tryz.zeroValue9
  t46 := Tryz.underlying118
  a46 := Tryz.isAgg118
  z46 := Tryz.sizeOf118
  v46 := Tryz.zeroValue118
  t53 := Tryz.underlying132
  a53 := Tryz.isAgg132
  z53 := Tryz.sizeOf132
  v53 := Tryz.zeroValue132 }
/-- bits.Len64: "Len64 returns the minimum number of bits required to represent x; the result is 0 for x == 0.": IT RETURNS 'Lib.bitLen x'; the world is as it was. ('h0', 'h1': x is a uint64.) (LAID: no walk: one application.) -/
theorem Tryz.bits_Len64 (x : Int) (w : World) (h0 : 0 ≤ x) (h1 : x ≤ 18446744073709551615) :
    Calls Tryz.prog 153 #[.int .u64 x] w fun e w' => e = .returned (.int .i64 (Lib.bitLen x.toNat)) ∧ w' = w := Any.bits_Len64 Tryz.lays129 x w h0 h1
def Tryz.laysSlF20_f144_ren : Go.Shelf.Ren := ⟨fun | 20 => 144 | n => n, fun | 24 => 23 | 22 => 78 | 3 => 3 | 25 => 102 | 4 => 4 | 0 => 0 | n => n, fun | n => n⟩
theorem Tryz.laysSlF20_f144 : Go.Proofs.SlLaysF.n20 Tryz.prog Tryz.laysSlF20_f144_ren := {
  mixed := by kernel_rfl
  f20 := ⟨Tryz.f144.name, by decide, Tryz.func144.trans (congrArg some (by kernel_rfl))⟩
  t0 := Tryz.underlying0
  a0 := Tryz.isAgg0
  z0 := Tryz.sizeOf0
  v0 := Tryz.zeroValue0
  t3 := Tryz.underlying3
  a3 := Tryz.isAgg3
  z3 := Tryz.sizeOf3
  v3 := Tryz.zeroValue3
  t4 := Tryz.underlying4
  a4 := Tryz.isAgg4
  z4 := Tryz.sizeOf4
  v4 := Tryz.zeroValue4
  t22 := Tryz.underlying78
  a22 := Tryz.isAgg78
  z22 := Tryz.sizeOf78
  v22 := Tryz.zeroValue78
  a24 := Tryz.isAgg23
  z24 := Tryz.sizeOf23
  t25 := Tryz.underlying102
  a25 := Tryz.isAgg102
  z25 := Tryz.sizeOf102
  v25 := Tryz.zeroValue102 }
open Go.RowKit Go.Lib Go.Sort in
theorem Tryz.insertionSortCmpFunc_one {α : Type} [Inhabited α] (enc : α → Value) (hO : OneCell enc) (cf : α → α → Int) (g : Nat) (cb : Array Value) (blk off cap a b : Nat) (d : Array α) (w : World) (eg : ∀ args w, (callFunc g args).run Tryz.prog w = .ok (.enter g args) w) (hcmp : CmpReads Tryz.prog g cb enc cf blk off d.size w) (hH : Holds enc w blk off d) (hab : a ≤ b) (hb : b ≤ d.size) (hsz : d.size < 4611686018427387904) :
    Calls Tryz.prog 144 #[.slice (some ⟨blk, off, none⟩) d.size cap, .int .i64 a, .int .i64 b, .func (.func g) #[] cb] w fun e w' =>
      e = .returned (.tuple #[]) ∧ ∃ n, w' = (putRow enc w blk off (Sort.insertionSort (ltOf cf) d a b)).drewN n := Any.insertionSortCmpFunc_one Tryz.laysSlF20_f144 enc hO cf g cb blk off cap a b d w eg hcmp hH hab hb hsz
def Tryz.laysSlF46_f155_ren : Go.Shelf.Ren := ⟨fun | 46 => 155 | n => n, fun | 24 => 23 | 22 => 78 | 3 => 3 | 25 => 102 | 4 => 4 | 0 => 0 | n => n, fun | n => n⟩
theorem Tryz.laysSlF46_f155 : Go.Proofs.SlLaysF.n46 Tryz.prog Tryz.laysSlF46_f155_ren := {
  mixed := by kernel_rfl
  f46 := ⟨Tryz.f155.name, by decide, Tryz.func155.trans (congrArg some (by kernel_rfl))⟩
  t0 := Tryz.underlying0
  a0 := Tryz.isAgg0
  z0 := Tryz.sizeOf0
  v0 := Tryz.zeroValue0
  t3 := Tryz.underlying3
  a3 := Tryz.isAgg3
  z3 := Tryz.sizeOf3
  v3 := Tryz.zeroValue3
  t4 := Tryz.underlying4
  a4 := Tryz.isAgg4
  z4 := Tryz.sizeOf4
  v4 := Tryz.zeroValue4
  t22 := Tryz.underlying78
  a22 := Tryz.isAgg78
  z22 := Tryz.sizeOf78
  v22 := Tryz.zeroValue78
  a24 := Tryz.isAgg23
  z24 := Tryz.sizeOf23
  t25 := Tryz.underlying102
  a25 := Tryz.isAgg102
  z25 := Tryz.sizeOf102
  v25 := Tryz.zeroValue102 }
open Go.RowKit Go.Lib Go.Sort in
/-- slices.siftDownCmpFunc at elements of one cell: from a world of the sort's to a world of the sort's. (LAID AT THE INSTANCE 'slices.siftDownCmpFunc[[]int]': no walk: one application.) -/
theorem Tryz.siftDownCmpFunc {α : Type} [Inhabited α] (enc : α → Value) (cf : α → α → Int) (g : Nat) (cb : Array Value) (blk off cap lo hi first : Nat) (d0 d : Array α) (w0 w : World) (eg : ∀ args w, (callFunc g args).run Tryz.prog w = .ok (.enter g args) w) (hcmp : CmpLays1 Tryz.prog g cb enc cf blk off d0.size w0) (R : Row1 enc w0 blk off d0) (hs : d0.size = d.size) (S : SW enc w0 blk off d w) (hlo : lo ≤ hi) (hb : first + hi ≤ d.size) (hsz : d.size < 4611686018427387904) :
    Calls Tryz.prog 155 #[.slice (some ⟨blk, off, none⟩) d.size cap, .int .i64 lo, .int .i64 hi, .int .i64 first, .func (.func g) #[] cb] w fun e w' =>
      e = .returned (.tuple #[]) ∧ SW enc w0 blk off (siftDown (ltOf cf) hi first lo d) w' := Any.siftDownCmpFunc Tryz.laysSlF46_f155 enc cf g cb blk off cap lo hi first d0 d w0 w eg hcmp R hs S hlo hb hsz
def Tryz.laysSlF21_f145_ren : Go.Shelf.Ren := ⟨fun | 21 => 145 | 46 => 155 | n => n, fun | 24 => 23 | 22 => 78 | 3 => 3 | 25 => 102 | 4 => 4 | 0 => 0 | n => n, fun | n => n⟩
theorem Tryz.laysSlF21_f145 : Go.Proofs.SlLaysF.n21 Tryz.prog Tryz.laysSlF21_f145_ren := {
  mixed := by kernel_rfl
  f21 := ⟨Tryz.f145.name, by decide, Tryz.func145.trans (congrArg some (by kernel_rfl))⟩
  f46 := ⟨Tryz.f155.name, by decide, Tryz.func155.trans (congrArg some (by kernel_rfl))⟩
  t0 := Tryz.underlying0
  a0 := Tryz.isAgg0
  z0 := Tryz.sizeOf0
  v0 := Tryz.zeroValue0
  t3 := Tryz.underlying3
  a3 := Tryz.isAgg3
  z3 := Tryz.sizeOf3
  v3 := Tryz.zeroValue3
  t4 := Tryz.underlying4
  a4 := Tryz.isAgg4
  z4 := Tryz.sizeOf4
  v4 := Tryz.zeroValue4
  t22 := Tryz.underlying78
  a22 := Tryz.isAgg78
  z22 := Tryz.sizeOf78
  v22 := Tryz.zeroValue78
  a24 := Tryz.isAgg23
  z24 := Tryz.sizeOf23
  t25 := Tryz.underlying102
  a25 := Tryz.isAgg102
  z25 := Tryz.sizeOf102
  v25 := Tryz.zeroValue102 }
open Go.RowKit Go.Lib Go.Sort in
/-- slices.heapSortCmpFunc at elements of one cell. (LAID AT THE INSTANCE 'slices.heapSortCmpFunc[[]int]': no walk: one application.) -/
theorem Tryz.heapSortCmpFunc {α : Type} [Inhabited α] (enc : α → Value) (cf : α → α → Int) (g : Nat) (cb : Array Value) (blk off cap a b : Nat) (d0 d : Array α) (w0 w : World) (eg : ∀ args w, (callFunc g args).run Tryz.prog w = .ok (.enter g args) w) (hcmp : CmpLays1 Tryz.prog g cb enc cf blk off d0.size w0) (R : Row1 enc w0 blk off d0) (hs : d0.size = d.size) (S : SW enc w0 blk off d w) (hab : a ≤ b) (hb : b ≤ d.size) (hsz : d.size < 4611686018427387904) :
    Calls Tryz.prog 145 #[.slice (some ⟨blk, off, none⟩) d.size cap, .int .i64 a, .int .i64 b, .func (.func g) #[] cb] w fun e w' =>
      e = .returned (.tuple #[]) ∧ SW enc w0 blk off (heapSort (ltOf cf) d a b) w' := Any.heapSortCmpFunc Tryz.laysSlF21_f145 enc cf g cb blk off cap a b d0 d w0 w eg hcmp R hs S hab hb hsz
open Go.RowKit Go.Lib Go.Sort in
/-- slices.insertionSortCmpFunc at elements of one cell: from a world of the sort's to a world of the sort's. (LAID AT THE INSTANCE 'slices.insertionSortCmpFunc[[]int]': no walk: one application.) -/
theorem Tryz.insertionSortCmpFunc_s {α : Type} [Inhabited α] (enc : α → Value) (cf : α → α → Int) (g : Nat) (cb : Array Value) (blk off cap a b : Nat) (d0 d : Array α) (w0 w : World) (eg : ∀ args w, (callFunc g args).run Tryz.prog w = .ok (.enter g args) w) (hcmp : CmpLays1 Tryz.prog g cb enc cf blk off d0.size w0) (R : Row1 enc w0 blk off d0) (hs : d0.size = d.size) (S : SW enc w0 blk off d w) (hab : a ≤ b) (hb : b ≤ d.size) (hsz : d.size < 4611686018427387904) :
    Calls Tryz.prog 144 #[.slice (some ⟨blk, off, none⟩) d.size cap, .int .i64 a, .int .i64 b, .func (.func g) #[] cb] w fun e w' => e = .returned (.tuple #[]) ∧ SW enc w0 blk off (Sort.insertionSort (ltOf cf) d a b) w' := Any.insertionSortCmpFunc_s Tryz.laysSlF20_f144 enc cf g cb blk off cap a b d0 d w0 w eg hcmp R hs S hab hb hsz
def Tryz.laysSlF57_f160_ren : Go.Shelf.Ren := ⟨fun | 57 => 160 | n => n, fun | 24 => 23 | 22 => 78 | 3 => 3 | 70 => 138 | 25 => 102 | 0 => 0 | 4 => 4 | n => n, fun | n => n⟩
theorem Tryz.laysSlF57_f160 : Go.Proofs.SlLaysF.n57 Tryz.prog Tryz.laysSlF57_f160_ren := {
  mixed := by kernel_rfl
  f57 := ⟨Tryz.f160.name, by decide, Tryz.func160.trans (congrArg some (by kernel_rfl))⟩
  t0 := Tryz.underlying0
  a0 := Tryz.isAgg0
  z0 := Tryz.sizeOf0
  v0 := Tryz.zeroValue0
  t3 := Tryz.underlying3
  a3 := Tryz.isAgg3
  z3 := Tryz.sizeOf3
  v3 := Tryz.zeroValue3
  t4 := Tryz.underlying4
  a4 := Tryz.isAgg4
  z4 := Tryz.sizeOf4
  v4 := Tryz.zeroValue4
  t22 := Tryz.underlying78
  a22 := Tryz.isAgg78
  z22 := Tryz.sizeOf78
  v22 := Tryz.zeroValue78
  a24 := Tryz.isAgg23
  z24 := Tryz.sizeOf23
  t25 := Tryz.underlying102
  a25 := Tryz.isAgg102
  z25 := Tryz.sizeOf102
  v25 := Tryz.zeroValue102
  t70 := Tryz.underlying138
  a70 := Tryz.isAgg138
  z70 := Tryz.sizeOf138
  v70 := Tryz.zeroValue138 }
open Go.RowKit Go.Lib Go.Sort in
/-- slices.order2CmpFunc at elements of one cell. (LAID AT THE INSTANCE 'slices.order2CmpFunc[[]int]': no walk: one application.) -/
theorem Tryz.order2CmpFunc {α : Type} [Inhabited α] (enc : α → Value) (cf : α → α → Int) (g : Nat) (cb : Array Value) (blk off cap a b c s : Nat) (d0 d : Array α) (w0 W : World) (eg : ∀ args w, (callFunc g args).run Tryz.prog w = .ok (.enter g args) w) (hcmp : CmpLays1 Tryz.prog g cb enc cf blk off d0.size w0) (R : Row1 enc w0 blk off d0) (hs : d0.size = d.size) (C : Cnt1 enc w0 blk off d c s W) (ha : a < d.size) (hb : b < d.size) (hsz : d.size < 4611686018427387904) (hss : s < 4611686018427387904) :
    Calls Tryz.prog 160 #[.slice (some ⟨blk, off, none⟩) d.size cap, .int .i64 a, .int .i64 b, .pointer (some ⟨c, 0, none⟩), .func (.func g) #[] cb] W fun e w' =>
      e = .returned (.tuple #[.int .i64 (order2 (ltOf cf) d a b s).1, .int .i64 (order2 (ltOf cf) d a b s).2.1]) ∧ Cnt1 enc w0 blk off d c (order2 (ltOf cf) d a b s).2.2 w' := Any.order2CmpFunc Tryz.laysSlF57_f160 enc cf g cb blk off cap a b c s d0 d w0 W eg hcmp R hs C ha hb hsz hss
def Tryz.laysSlF50_f159_ren : Go.Shelf.Ren := ⟨fun | 50 => 159 | 57 => 160 | n => n, fun | 24 => 23 | 22 => 78 | 3 => 3 | 70 => 138 | 25 => 102 | 77 => 56 | 0 => 0 | 4 => 4 | n => n, fun | n => n⟩
theorem Tryz.laysSlF50_f159 : Go.Proofs.SlLaysF.n50 Tryz.prog Tryz.laysSlF50_f159_ren := {
  mixed := by kernel_rfl
  f50 := ⟨Tryz.f159.name, by decide, Tryz.func159.trans (congrArg some (by kernel_rfl))⟩
  f57 := ⟨Tryz.f160.name, by decide, Tryz.func160.trans (congrArg some (by kernel_rfl))⟩
  t0 := Tryz.underlying0
  a0 := Tryz.isAgg0
  z0 := Tryz.sizeOf0
  v0 := Tryz.zeroValue0
  t3 := Tryz.underlying3
  a3 := Tryz.isAgg3
  z3 := Tryz.sizeOf3
  v3 := Tryz.zeroValue3
  t4 := Tryz.underlying4
  a4 := Tryz.isAgg4
  z4 := Tryz.sizeOf4
  v4 := Tryz.zeroValue4
  t22 := Tryz.underlying78
  a22 := Tryz.isAgg78
  z22 := Tryz.sizeOf78
  v22 := Tryz.zeroValue78
  a24 := Tryz.isAgg23
  z24 := Tryz.sizeOf23
  t25 := Tryz.underlying102
  a25 := Tryz.isAgg102
  z25 := Tryz.sizeOf102
  v25 := Tryz.zeroValue102
  t70 := Tryz.underlying138
  a70 := Tryz.isAgg138
  z70 := Tryz.sizeOf138
  v70 := Tryz.zeroValue138
  t77 := Tryz.underlying56
  a77 := Tryz.isAgg56
  z77 := Tryz.sizeOf56
  v77 := Tryz.zeroValue56 }
open Go.RowKit Go.Lib Go.Sort in
/-- slices.medianCmpFunc at elements of one cell. (LAID AT THE INSTANCE 'slices.medianCmpFunc[[]int]': no walk: one application.) -/
theorem Tryz.medianCmpFunc {α : Type} [Inhabited α] (enc : α → Value) (cf : α → α → Int) (g : Nat) (cb : Array Value) (blk off cap a b c' c s : Nat) (d0 d : Array α) (w0 W : World) (eg : ∀ args w, (callFunc g args).run Tryz.prog w = .ok (.enter g args) w) (hcmp : CmpLays1 Tryz.prog g cb enc cf blk off d0.size w0) (R : Row1 enc w0 blk off d0) (hs : d0.size = d.size) (C : Cnt1 enc w0 blk off d c s W) (ha : a < d.size) (hb : b < d.size) (hc : c' < d.size) (hsz : d.size < 4611686018427387904) (hss : s + 3 < 4611686018427387904) :
    Calls Tryz.prog 159 #[.slice (some ⟨blk, off, none⟩) d.size cap, .int .i64 a, .int .i64 b, .int .i64 c', .pointer (some ⟨c, 0, none⟩), .func (.func g) #[] cb] W fun e w' =>
      e = .returned (.int .i64 (median (ltOf cf) d a b c' s).1) ∧ Cnt1 enc w0 blk off d c (median (ltOf cf) d a b c' s).2 w' := Any.medianCmpFunc Tryz.laysSlF50_f159 enc cf g cb blk off cap a b c' c s d0 d w0 W eg hcmp R hs C ha hb hc hsz hss
def Tryz.laysSlF49_f158_ren : Go.Shelf.Ren := ⟨fun | 49 => 158 | 50 => 159 | 57 => 160 | n => n, fun | 24 => 23 | 22 => 78 | 3 => 3 | 70 => 138 | 25 => 102 | 77 => 56 | 0 => 0 | 4 => 4 | n => n, fun | n => n⟩
theorem Tryz.laysSlF49_f158 : Go.Proofs.SlLaysF.n49 Tryz.prog Tryz.laysSlF49_f158_ren := {
  mixed := by kernel_rfl
  f49 := ⟨Tryz.f158.name, by decide, Tryz.func158.trans (congrArg some (by kernel_rfl))⟩
  f50 := ⟨Tryz.f159.name, by decide, Tryz.func159.trans (congrArg some (by kernel_rfl))⟩
  f57 := ⟨Tryz.f160.name, by decide, Tryz.func160.trans (congrArg some (by kernel_rfl))⟩
  t0 := Tryz.underlying0
  a0 := Tryz.isAgg0
  z0 := Tryz.sizeOf0
  v0 := Tryz.zeroValue0
  t3 := Tryz.underlying3
  a3 := Tryz.isAgg3
  z3 := Tryz.sizeOf3
  v3 := Tryz.zeroValue3
  t4 := Tryz.underlying4
  a4 := Tryz.isAgg4
  z4 := Tryz.sizeOf4
  v4 := Tryz.zeroValue4
  t22 := Tryz.underlying78
  a22 := Tryz.isAgg78
  z22 := Tryz.sizeOf78
  v22 := Tryz.zeroValue78
  a24 := Tryz.isAgg23
  z24 := Tryz.sizeOf23
  t25 := Tryz.underlying102
  a25 := Tryz.isAgg102
  z25 := Tryz.sizeOf102
  v25 := Tryz.zeroValue102
  t70 := Tryz.underlying138
  a70 := Tryz.isAgg138
  z70 := Tryz.sizeOf138
  v70 := Tryz.zeroValue138
  t77 := Tryz.underlying56
  a77 := Tryz.isAgg56
  z77 := Tryz.sizeOf56
  v77 := Tryz.zeroValue56 }
open Go.RowKit Go.Lib Go.Sort in
/-- slices.medianAdjacentCmpFunc at elements of one cell. (LAID AT THE INSTANCE 'slices.medianAdjacentCmpFunc[[]int]': no walk: one application.) -/
theorem Tryz.medianAdjacentCmpFunc {α : Type} [Inhabited α] (enc : α → Value) (cf : α → α → Int) (g : Nat) (cb : Array Value) (blk off cap a c s : Nat) (d0 d : Array α) (w0 W : World) (eg : ∀ args w, (callFunc g args).run Tryz.prog w = .ok (.enter g args) w) (hcmp : CmpLays1 Tryz.prog g cb enc cf blk off d0.size w0) (R : Row1 enc w0 blk off d0) (hs : d0.size = d.size) (C : Cnt1 enc w0 blk off d c s W) (ha1 : 1 ≤ a) (ha2 : a + 1 < d.size) (hsz : d.size < 4611686018427387904) (hss : s + 3 < 4611686018427387904) :
    Calls Tryz.prog 158 #[.slice (some ⟨blk, off, none⟩) d.size cap, .int .i64 a, .pointer (some ⟨c, 0, none⟩), .func (.func g) #[] cb] W fun e w' =>
      e = .returned (.int .i64 (medianAdjacent (ltOf cf) d a s).1) ∧ Cnt1 enc w0 blk off d c (medianAdjacent (ltOf cf) d a s).2 w' := Any.medianAdjacentCmpFunc Tryz.laysSlF49_f158 enc cf g cb blk off cap a c s d0 d w0 W eg hcmp R hs C ha1 ha2 hsz hss
def Tryz.laysSlF23_f147_ren : Go.Shelf.Ren := ⟨fun | 23 => 147 | 49 => 158 | 50 => 159 | 57 => 160 | n => n, fun | 24 => 23 | 22 => 78 | 3 => 3 | 25 => 102 | 45 => 122 | 0 => 0 | 4 => 4 | 70 => 138 | 77 => 56 | n => n, fun | n => n⟩
theorem Tryz.laysSlF23_f147 : Go.Proofs.SlLaysF.n23 Tryz.prog Tryz.laysSlF23_f147_ren := {
  mixed := by kernel_rfl
  f23 := ⟨Tryz.f147.name, by decide, Tryz.func147.trans (congrArg some (by kernel_rfl))⟩
  f49 := ⟨Tryz.f158.name, by decide, Tryz.func158.trans (congrArg some (by kernel_rfl))⟩
  f50 := ⟨Tryz.f159.name, by decide, Tryz.func159.trans (congrArg some (by kernel_rfl))⟩
  f57 := ⟨Tryz.f160.name, by decide, Tryz.func160.trans (congrArg some (by kernel_rfl))⟩
  t0 := Tryz.underlying0
  a0 := Tryz.isAgg0
  z0 := Tryz.sizeOf0
  v0 := Tryz.zeroValue0
  t3 := Tryz.underlying3
  a3 := Tryz.isAgg3
  z3 := Tryz.sizeOf3
  v3 := Tryz.zeroValue3
  t4 := Tryz.underlying4
  a4 := Tryz.isAgg4
  z4 := Tryz.sizeOf4
  v4 := Tryz.zeroValue4
  t22 := Tryz.underlying78
  a22 := Tryz.isAgg78
  z22 := Tryz.sizeOf78
  v22 := Tryz.zeroValue78
  a24 := Tryz.isAgg23
  z24 := Tryz.sizeOf23
  t25 := Tryz.underlying102
  a25 := Tryz.isAgg102
  z25 := Tryz.sizeOf102
  v25 := Tryz.zeroValue102
  t45 := Tryz.underlying122
  a45 := Tryz.isAgg122
  z45 := Tryz.sizeOf122
  v45 := Tryz.zeroValue122
  t70 := Tryz.underlying138
  a70 := Tryz.isAgg138
  z70 := Tryz.sizeOf138
  v70 := Tryz.zeroValue138
  t77 := Tryz.underlying56
  a77 := Tryz.isAgg56
  z77 := Tryz.sizeOf56
  v77 := Tryz.zeroValue56 }
open Go.RowKit Go.Lib Go.Sort in
/-- slices.choosePivotCmpFunc at elements of one cell: THE LIBRARY's OWN TEXT COMPUTES 'Sort.choosePivot (ltOf cf) d a b'; the row is not turned. (After Derived/Shelf/SlSortFuncK/PivotK.lean, row for row; the counter's world by 'CntK'.) (LAID AT THE INSTANCE 'slices.choosePivotCmpFunc[[]int]': no walk: one application.) -/
theorem Tryz.choosePivotCmpFunc {α : Type} [Inhabited α] (enc : α → Value) (cf : α → α → Int) (g : Nat) (cb : Array Value) (blk off cap a b : Nat) (d0 d : Array α) (w0 W : World) (eg : ∀ args w, (callFunc g args).run Tryz.prog w = .ok (.enter g args) w) (hcmp : CmpLays1 Tryz.prog g cb enc cf blk off d0.size w0) (R : Row1 enc w0 blk off d0) (hs : d0.size = d.size) (S : SW enc w0 blk off d W) (hab : a < b) (hb : b ≤ d.size) (hsz : d.size < 4611686018427387904) :
    Calls Tryz.prog 147 #[.slice (some ⟨blk, off, none⟩) d.size cap, .int .i64 a, .int .i64 b, .func (.func g) #[] cb] W fun e w' =>
      e = .returned (.tuple #[.int .i64 (choosePivot (ltOf cf) d a b).1, .int .i64 (hintCode (choosePivot (ltOf cf) d a b).2)]) ∧ SW enc w0 blk off d w' := Any.choosePivotCmpFunc Tryz.laysSlF23_f147 enc cf g cb blk off cap a b d0 d w0 W eg hcmp R hs S hab hb hsz
def Tryz.laysSlF24_f148_ren : Go.Shelf.Ren := ⟨fun | 24 => 148 | n => n, fun | 24 => 23 | 22 => 78 | 3 => 3 | 25 => 102 | 4 => 4 | 0 => 0 | n => n, fun | n => n⟩
theorem Tryz.laysSlF24_f148 : Go.Proofs.SlLaysF.n24 Tryz.prog Tryz.laysSlF24_f148_ren := {
  mixed := by kernel_rfl
  f24 := ⟨Tryz.f148.name, by decide, Tryz.func148.trans (congrArg some (by kernel_rfl))⟩
  t0 := Tryz.underlying0
  a0 := Tryz.isAgg0
  z0 := Tryz.sizeOf0
  v0 := Tryz.zeroValue0
  t3 := Tryz.underlying3
  a3 := Tryz.isAgg3
  z3 := Tryz.sizeOf3
  v3 := Tryz.zeroValue3
  t4 := Tryz.underlying4
  a4 := Tryz.isAgg4
  z4 := Tryz.sizeOf4
  v4 := Tryz.zeroValue4
  t22 := Tryz.underlying78
  a22 := Tryz.isAgg78
  z22 := Tryz.sizeOf78
  v22 := Tryz.zeroValue78
  a24 := Tryz.isAgg23
  z24 := Tryz.sizeOf23
  t25 := Tryz.underlying102
  a25 := Tryz.isAgg102
  z25 := Tryz.sizeOf102
  v25 := Tryz.zeroValue102 }
open Go.RowKit Go.Lib Go.Sort in
/-- slices.reverseRangeCmpFunc at elements of one cell: it exchanges and does not compare. (LAID AT THE INSTANCE 'slices.reverseRangeCmpFunc[[]int]': no walk: one application.) -/
theorem Tryz.reverseRangeCmpFunc {α : Type} [Inhabited α] (enc : α → Value) (g : Nat) (cb : Array Value) (blk off cap a b : Nat) (d0 d : Array α) (w0 w : World) (R : Row1 enc w0 blk off d0) (hs : d0.size = d.size) (S : SW enc w0 blk off d w) (hab : a ≤ b) (hb : b ≤ d.size) (hsz : d.size < 4611686018427387904) :
    Calls Tryz.prog 148 #[.slice (some ⟨blk, off, none⟩) d.size cap, .int .i64 a, .int .i64 b, .func (.func g) #[] cb] w fun e w' => e = .returned (.tuple #[]) ∧ SW enc w0 blk off (reverseRange d a b) w' := Any.reverseRangeCmpFunc Tryz.laysSlF24_f148 enc g cb blk off cap a b d0 d w0 w R hs S hab hb hsz
def Tryz.laysSlF25_f149_ren : Go.Shelf.Ren := ⟨fun | 25 => 149 | n => n, fun | 24 => 23 | 22 => 78 | 3 => 3 | 25 => 102 | 4 => 4 | 0 => 0 | n => n, fun | n => n⟩
theorem Tryz.laysSlF25_f149 : Go.Proofs.SlLaysF.n25 Tryz.prog Tryz.laysSlF25_f149_ren := {
  mixed := by kernel_rfl
  f25 := ⟨Tryz.f149.name, by decide, Tryz.func149.trans (congrArg some (by kernel_rfl))⟩
  t0 := Tryz.underlying0
  a0 := Tryz.isAgg0
  z0 := Tryz.sizeOf0
  v0 := Tryz.zeroValue0
  t3 := Tryz.underlying3
  a3 := Tryz.isAgg3
  z3 := Tryz.sizeOf3
  v3 := Tryz.zeroValue3
  t4 := Tryz.underlying4
  a4 := Tryz.isAgg4
  z4 := Tryz.sizeOf4
  v4 := Tryz.zeroValue4
  t22 := Tryz.underlying78
  a22 := Tryz.isAgg78
  z22 := Tryz.sizeOf78
  v22 := Tryz.zeroValue78
  a24 := Tryz.isAgg23
  z24 := Tryz.sizeOf23
  t25 := Tryz.underlying102
  a25 := Tryz.isAgg102
  z25 := Tryz.sizeOf102
  v25 := Tryz.zeroValue102 }
open Go.RowKit Go.Lib Go.Sort in
/-- slices.partialInsertionSortCmpFunc at elements of one cell. (LAID AT THE INSTANCE 'slices.partialInsertionSortCmpFunc[[]int]': no walk: one application.) -/
theorem Tryz.partialInsertionSortCmpFunc {α : Type} [Inhabited α] (enc : α → Value) (cf : α → α → Int) (g : Nat) (cb : Array Value) (blk off cap a b : Nat) (d0 d : Array α) (w0 w : World) (eg : ∀ args w, (callFunc g args).run Tryz.prog w = .ok (.enter g args) w) (hcmp : CmpLays1 Tryz.prog g cb enc cf blk off d0.size w0) (R : Row1 enc w0 blk off d0) (hs : d0.size = d.size) (S : SW enc w0 blk off d w) (hab : a < b) (hb : b ≤ d.size) (hsz : d.size < 4611686018427387904) :
    Calls Tryz.prog 149 #[.slice (some ⟨blk, off, none⟩) d.size cap, .int .i64 a, .int .i64 b, .func (.func g) #[] cb] w fun e w' =>
      e = .returned (.bool (Sort.partialInsertionSort (ltOf cf) d a b).2) ∧ SW enc w0 blk off (Sort.partialInsertionSort (ltOf cf) d a b).1 w' := Any.partialInsertionSortCmpFunc Tryz.laysSlF25_f149 enc cf g cb blk off cap a b d0 d w0 w eg hcmp R hs S hab hb hsz
def Tryz.laysSlF26_f150_ren : Go.Shelf.Ren := ⟨fun | 26 => 150 | n => n, fun | 24 => 23 | 22 => 78 | 3 => 3 | 25 => 102 | 0 => 0 | 4 => 4 | n => n, fun | n => n⟩
theorem Tryz.laysSlF26_f150 : Go.Proofs.SlLaysF.n26 Tryz.prog Tryz.laysSlF26_f150_ren := {
  mixed := by kernel_rfl
  f26 := ⟨Tryz.f150.name, by decide, Tryz.func150.trans (congrArg some (by kernel_rfl))⟩
  t0 := Tryz.underlying0
  a0 := Tryz.isAgg0
  z0 := Tryz.sizeOf0
  v0 := Tryz.zeroValue0
  t3 := Tryz.underlying3
  a3 := Tryz.isAgg3
  z3 := Tryz.sizeOf3
  v3 := Tryz.zeroValue3
  t4 := Tryz.underlying4
  a4 := Tryz.isAgg4
  z4 := Tryz.sizeOf4
  v4 := Tryz.zeroValue4
  t22 := Tryz.underlying78
  a22 := Tryz.isAgg78
  z22 := Tryz.sizeOf78
  v22 := Tryz.zeroValue78
  a24 := Tryz.isAgg23
  z24 := Tryz.sizeOf23
  t25 := Tryz.underlying102
  a25 := Tryz.isAgg102
  z25 := Tryz.sizeOf102
  v25 := Tryz.zeroValue102 }
open Go.RowKit Go.Lib Go.Sort in
/-- slices.partitionEqualCmpFunc at elements of one cell. (After Derived/Shelf/SlSortFuncK/PartitionK.lean, row for row.) (LAID AT THE INSTANCE 'slices.partitionEqualCmpFunc[[]int]': no walk: one application.) -/
theorem Tryz.partitionEqualCmpFunc {α : Type} [Inhabited α] (enc : α → Value) (cf : α → α → Int) (g : Nat) (cb : Array Value) (blk off cap a b pivot : Nat) (d0 d : Array α) (w0 w : World) (eg : ∀ args w, (callFunc g args).run Tryz.prog w = .ok (.enter g args) w) (hcmp : CmpLays1 Tryz.prog g cb enc cf blk off d0.size w0) (R : Row1 enc w0 blk off d0) (hs : d0.size = d.size) (S : SW enc w0 blk off d w) (hap : a ≤ pivot) (hpb : pivot < b) (hb : b ≤ d.size) (hsz : d.size < 4611686018427387904) :
    Calls Tryz.prog 150 #[.slice (some ⟨blk, off, none⟩) d.size cap, .int .i64 a, .int .i64 b, .int .i64 pivot, .func (.func g) #[] cb] w fun e w' =>
      e = .returned (.int .i64 (Sort.partitionEqual (ltOf cf) d a b pivot).1) ∧ SW enc w0 blk off (Sort.partitionEqual (ltOf cf) d a b pivot).2 w' := Any.partitionEqualCmpFunc Tryz.laysSlF26_f150 enc cf g cb blk off cap a b pivot d0 d w0 w eg hcmp R hs S hap hpb hb hsz
def Tryz.laysSlF27_f151_ren : Go.Shelf.Ren := ⟨fun | 27 => 151 | n => n, fun | 24 => 23 | 22 => 78 | 3 => 3 | 25 => 102 | 4 => 4 | 0 => 0 | n => n, fun | n => n⟩
theorem Tryz.laysSlF27_f151 : Go.Proofs.SlLaysF.n27 Tryz.prog Tryz.laysSlF27_f151_ren := {
  mixed := by kernel_rfl
  f27 := ⟨Tryz.f151.name, by decide, Tryz.func151.trans (congrArg some (by kernel_rfl))⟩
  t0 := Tryz.underlying0
  a0 := Tryz.isAgg0
  z0 := Tryz.sizeOf0
  v0 := Tryz.zeroValue0
  t3 := Tryz.underlying3
  a3 := Tryz.isAgg3
  z3 := Tryz.sizeOf3
  v3 := Tryz.zeroValue3
  t4 := Tryz.underlying4
  a4 := Tryz.isAgg4
  z4 := Tryz.sizeOf4
  v4 := Tryz.zeroValue4
  t22 := Tryz.underlying78
  a22 := Tryz.isAgg78
  z22 := Tryz.sizeOf78
  v22 := Tryz.zeroValue78
  a24 := Tryz.isAgg23
  z24 := Tryz.sizeOf23
  t25 := Tryz.underlying102
  a25 := Tryz.isAgg102
  z25 := Tryz.sizeOf102
  v25 := Tryz.zeroValue102 }
open Go.RowKit Go.Lib Go.Sort in
/-- slices.partitionCmpFunc at elements of one cell. (After Derived/Shelf/SlSortFuncK/PartitionK.lean, row for row.) (LAID AT THE INSTANCE 'slices.partitionCmpFunc[[]int]': no walk: one application.) -/
theorem Tryz.partitionCmpFunc {α : Type} [Inhabited α] (enc : α → Value) (cf : α → α → Int) (g : Nat) (cb : Array Value) (blk off cap a b pivot : Nat) (d0 d : Array α) (w0 w : World) (eg : ∀ args w, (callFunc g args).run Tryz.prog w = .ok (.enter g args) w) (hcmp : CmpLays1 Tryz.prog g cb enc cf blk off d0.size w0) (R : Row1 enc w0 blk off d0) (hs : d0.size = d.size) (S : SW enc w0 blk off d w) (hap : a ≤ pivot) (hpb : pivot < b) (hb : b ≤ d.size) (hsz : d.size < 4611686018427387904) :
    Calls Tryz.prog 151 #[.slice (some ⟨blk, off, none⟩) d.size cap, .int .i64 a, .int .i64 b, .int .i64 pivot, .func (.func g) #[] cb] w fun e w' =>
      e = .returned (.tuple #[.int .i64 (Sort.partition (ltOf cf) d a b pivot).1, .bool (Sort.partition (ltOf cf) d a b pivot).2.1]) ∧ SW enc w0 blk off (Sort.partition (ltOf cf) d a b pivot).2.2 w' := Any.partitionCmpFunc Tryz.laysSlF27_f151 enc cf g cb blk off cap a b pivot d0 d w0 w eg hcmp R hs S hap hpb hb hsz
def Tryz.laysSlF14_f136_ren : Go.Shelf.Ren := ⟨fun | 14 => 136 | 20 => 144 | 21 => 145 | 22 => 146 | 23 => 147 | 24 => 148 | 25 => 149 | 26 => 150 | 27 => 151 | 46 => 155 | 47 => 156 | 48 => 157 | 49 => 158 | 50 => 159 | 15 => 137 | 57 => 160 | 28 => 152 | 29 => 153 | n => n, fun | 24 => 23 | 22 => 78 | 3 => 3 | 25 => 102 | 4 => 4 | 0 => 0 | 46 => 123 | 45 => 122 | 50 => 127 | 66 => 134 | 39 => 118 | 55 => 132 | 70 => 138 | 76 => 140 | 77 => 56 | 53 => 130 | 5 => 5 | 9 => 9 | n => n, fun | n => n⟩
theorem Tryz.laysSlF14_f136 : Go.Proofs.SlLaysF.n14 Tryz.prog Tryz.laysSlF14_f136_ren := {
  mixed := by kernel_rfl
  f14 := ⟨Tryz.f136.name, by decide, Tryz.func136.trans (congrArg some (by kernel_rfl))⟩
  f15 := Tryz.func137.trans (congrArg some (by kernel_rfl))
  f20 := ⟨Tryz.f144.name, by decide, Tryz.func144.trans (congrArg some (by kernel_rfl))⟩
  f21 := ⟨Tryz.f145.name, by decide, Tryz.func145.trans (congrArg some (by kernel_rfl))⟩
  f22 := ⟨Tryz.f146.name, by decide, Tryz.func146.trans (congrArg some (by kernel_rfl))⟩
  f23 := ⟨Tryz.f147.name, by decide, Tryz.func147.trans (congrArg some (by kernel_rfl))⟩
  f24 := ⟨Tryz.f148.name, by decide, Tryz.func148.trans (congrArg some (by kernel_rfl))⟩
  f25 := ⟨Tryz.f149.name, by decide, Tryz.func149.trans (congrArg some (by kernel_rfl))⟩
  f26 := ⟨Tryz.f150.name, by decide, Tryz.func150.trans (congrArg some (by kernel_rfl))⟩
  f27 := ⟨Tryz.f151.name, by decide, Tryz.func151.trans (congrArg some (by kernel_rfl))⟩
  f28 := Tryz.func152.trans (congrArg some (by kernel_rfl))
  f29 := Tryz.func153.trans (congrArg some (by kernel_rfl))
  f46 := ⟨Tryz.f155.name, by decide, Tryz.func155.trans (congrArg some (by kernel_rfl))⟩
  f47 := Tryz.func156.trans (congrArg some (by kernel_rfl))
  f48 := Tryz.func157.trans (congrArg some (by kernel_rfl))
  f49 := ⟨Tryz.f158.name, by decide, Tryz.func158.trans (congrArg some (by kernel_rfl))⟩
  f50 := ⟨Tryz.f159.name, by decide, Tryz.func159.trans (congrArg some (by kernel_rfl))⟩
  f57 := ⟨Tryz.f160.name, by decide, Tryz.func160.trans (congrArg some (by kernel_rfl))⟩
  t0 := Tryz.underlying0
  a0 := Tryz.isAgg0
  z0 := Tryz.sizeOf0
  v0 := Tryz.zeroValue0
  t3 := Tryz.underlying3
  a3 := Tryz.isAgg3
  z3 := Tryz.sizeOf3
  v3 := Tryz.zeroValue3
  t4 := Tryz.underlying4
  a4 := Tryz.isAgg4
  z4 := Tryz.sizeOf4
  v4 := Tryz.zeroValue4
  t5 := Tryz.underlying5
  a5 := Tryz.isAgg5
  z5 := Tryz.sizeOf5
  v5 := Tryz.zeroValue5
  t9 := Tryz.underlying9
  a9 := Tryz.isAgg9
  z9 := Tryz.sizeOf9
  v9 := Tryz.zeroValue9
  t22 := Tryz.underlying78
  a22 := Tryz.isAgg78
  z22 := Tryz.sizeOf78
  v22 := Tryz.zeroValue78
  a24 := Tryz.isAgg23
  z24 := Tryz.sizeOf23
  t25 := Tryz.underlying102
  a25 := Tryz.isAgg102
  z25 := Tryz.sizeOf102
  v25 := Tryz.zeroValue102
  t39 := Tryz.underlying118
  a39 := Tryz.isAgg118
  z39 := Tryz.sizeOf118
  v39 := Tryz.zeroValue118
  t45 := Tryz.underlying122
  a45 := Tryz.isAgg122
  z45 := Tryz.sizeOf122
  v45 := Tryz.zeroValue122
  t46 := Tryz.underlying123
  a46 := Tryz.isAgg123
  z46 := Tryz.sizeOf123
  v46 := Tryz.zeroValue123
  t50 := Tryz.underlying127
  a50 := Tryz.isAgg127
  z50 := Tryz.sizeOf127
  v50 := Tryz.zeroValue127
  t53 := Tryz.underlying130
  a53 := Tryz.isAgg130
  z53 := Tryz.sizeOf130
  v53 := Tryz.zeroValue130
  t55 := Tryz.underlying132
  a55 := Tryz.isAgg132
  z55 := Tryz.sizeOf132
  v55 := Tryz.zeroValue132
  t66 := Tryz.underlying134
  a66 := Tryz.isAgg134
  z66 := Tryz.sizeOf134
  v66 := Tryz.zeroValue134
  t70 := Tryz.underlying138
  a70 := Tryz.isAgg138
  z70 := Tryz.sizeOf138
  v70 := Tryz.zeroValue138
  t76 := Tryz.underlying140
  a76 := Tryz.isAgg140
  z76 := Tryz.sizeOf140
  v76 := Tryz.zeroValue140
  t77 := Tryz.underlying56
  a77 := Tryz.isAgg56
  z77 := Tryz.sizeOf56
  v77 := Tryz.zeroValue56 }
open Go.RowKit Go.Lib Go.Sort in
/-- slices.pdqsortCmpFunc at elements of one cell, WHOLE. (After Derived/Shelf/SlSortFuncK/PdqK.lean, row for row: the slots and the regions' numbers are this body's.) (LAID AT THE INSTANCE 'slices.pdqsortCmpFunc[[]int]': no walk: one application.) -/
theorem Tryz.pdqsortCmpFunc_all {α : Type} [Inhabited α] (enc : α → Value) (cf : α → α → Int) (g : Nat) (cb : Array Value) (hO : SWO (ltOf cf)) (blk off cap : Nat) (d0 : Array α) (w0 : World) (eg : ∀ args w, (callFunc g args).run Tryz.prog w = .ok (.enter g args) w) (hcmp : CmpLays1 Tryz.prog g cb enc cf blk off d0.size w0) (R : Row1 enc w0 blk off d0) :
    ∀ (N a b limit : Nat) (d : Array α) (w : World), b - a < N → d0.size = d.size → SW enc w0 blk off d w → a ≤ b → b ≤ d.size → d.size < 4611686018427387904 → limit < 4611686018427387904 → Below (ltOf cf) a b d →
    Calls Tryz.prog 136 #[.slice (some ⟨blk, off, none⟩) d.size cap, .int .i64 a, .int .i64 b, .int .i64 limit, .func (.func g) #[] cb] w fun e w' => e = .returned (.tuple #[]) ∧ SW enc w0 blk off (pdq (ltOf cf) d a b limit true true) w' := Any.pdqsortCmpFunc_all Tryz.laysSlF14_f136 enc cf g cb hO blk off cap d0 w0 eg hcmp R
def Tryz.laysSlF6_f107_ren : Go.Shelf.Ren := ⟨fun | 6 => 107 | 15 => 137 | 14 => 136 | 28 => 152 | 29 => 153 | 20 => 144 | 21 => 145 | 22 => 146 | 23 => 147 | 24 => 148 | 25 => 149 | 26 => 150 | 27 => 151 | 46 => 155 | 47 => 156 | 48 => 157 | 49 => 158 | 50 => 159 | 57 => 160 | n => n, fun | 22 => 78 | 24 => 23 | 25 => 102 | 3 => 3 | 39 => 118 | 0 => 0 | 53 => 130 | 55 => 132 | 4 => 4 | 46 => 123 | 45 => 122 | 50 => 127 | 5 => 5 | 9 => 9 | 66 => 134 | 70 => 138 | 76 => 140 | 77 => 56 | n => n, fun | n => n⟩
theorem Tryz.laysSlF6_f107 : Go.Proofs.SlLaysF.n6 Tryz.prog Tryz.laysSlF6_f107_ren := {
  mixed := by kernel_rfl
  f6 := ⟨Tryz.f107.name, by decide, Tryz.func107.trans (congrArg some (by kernel_rfl))⟩
  f14 := ⟨Tryz.f136.name, by decide, Tryz.func136.trans (congrArg some (by kernel_rfl))⟩
  f15 := Tryz.func137.trans (congrArg some (by kernel_rfl))
  f20 := ⟨Tryz.f144.name, by decide, Tryz.func144.trans (congrArg some (by kernel_rfl))⟩
  f21 := ⟨Tryz.f145.name, by decide, Tryz.func145.trans (congrArg some (by kernel_rfl))⟩
  f22 := ⟨Tryz.f146.name, by decide, Tryz.func146.trans (congrArg some (by kernel_rfl))⟩
  f23 := ⟨Tryz.f147.name, by decide, Tryz.func147.trans (congrArg some (by kernel_rfl))⟩
  f24 := ⟨Tryz.f148.name, by decide, Tryz.func148.trans (congrArg some (by kernel_rfl))⟩
  f25 := ⟨Tryz.f149.name, by decide, Tryz.func149.trans (congrArg some (by kernel_rfl))⟩
  f26 := ⟨Tryz.f150.name, by decide, Tryz.func150.trans (congrArg some (by kernel_rfl))⟩
  f27 := ⟨Tryz.f151.name, by decide, Tryz.func151.trans (congrArg some (by kernel_rfl))⟩
  f28 := Tryz.func152.trans (congrArg some (by kernel_rfl))
  f29 := Tryz.func153.trans (congrArg some (by kernel_rfl))
  f46 := ⟨Tryz.f155.name, by decide, Tryz.func155.trans (congrArg some (by kernel_rfl))⟩
  f47 := Tryz.func156.trans (congrArg some (by kernel_rfl))
  f48 := Tryz.func157.trans (congrArg some (by kernel_rfl))
  f49 := ⟨Tryz.f158.name, by decide, Tryz.func158.trans (congrArg some (by kernel_rfl))⟩
  f50 := ⟨Tryz.f159.name, by decide, Tryz.func159.trans (congrArg some (by kernel_rfl))⟩
  f57 := ⟨Tryz.f160.name, by decide, Tryz.func160.trans (congrArg some (by kernel_rfl))⟩
  t0 := Tryz.underlying0
  a0 := Tryz.isAgg0
  z0 := Tryz.sizeOf0
  v0 := Tryz.zeroValue0
  t3 := Tryz.underlying3
  a3 := Tryz.isAgg3
  z3 := Tryz.sizeOf3
  v3 := Tryz.zeroValue3
  t4 := Tryz.underlying4
  a4 := Tryz.isAgg4
  z4 := Tryz.sizeOf4
  v4 := Tryz.zeroValue4
  t5 := Tryz.underlying5
  a5 := Tryz.isAgg5
  z5 := Tryz.sizeOf5
  v5 := Tryz.zeroValue5
  t9 := Tryz.underlying9
  a9 := Tryz.isAgg9
  z9 := Tryz.sizeOf9
  v9 := Tryz.zeroValue9
  t22 := Tryz.underlying78
  a22 := Tryz.isAgg78
  z22 := Tryz.sizeOf78
  v22 := Tryz.zeroValue78
  a24 := Tryz.isAgg23
  z24 := Tryz.sizeOf23
  t25 := Tryz.underlying102
  a25 := Tryz.isAgg102
  z25 := Tryz.sizeOf102
  v25 := Tryz.zeroValue102
  t39 := Tryz.underlying118
  a39 := Tryz.isAgg118
  z39 := Tryz.sizeOf118
  v39 := Tryz.zeroValue118
  t45 := Tryz.underlying122
  a45 := Tryz.isAgg122
  z45 := Tryz.sizeOf122
  v45 := Tryz.zeroValue122
  t46 := Tryz.underlying123
  a46 := Tryz.isAgg123
  z46 := Tryz.sizeOf123
  v46 := Tryz.zeroValue123
  t50 := Tryz.underlying127
  a50 := Tryz.isAgg127
  z50 := Tryz.sizeOf127
  v50 := Tryz.zeroValue127
  t53 := Tryz.underlying130
  a53 := Tryz.isAgg130
  z53 := Tryz.sizeOf130
  v53 := Tryz.zeroValue130
  t55 := Tryz.underlying132
  a55 := Tryz.isAgg132
  z55 := Tryz.sizeOf132
  v55 := Tryz.zeroValue132
  t66 := Tryz.underlying134
  a66 := Tryz.isAgg134
  z66 := Tryz.sizeOf134
  v66 := Tryz.zeroValue134
  t70 := Tryz.underlying138
  a70 := Tryz.isAgg138
  z70 := Tryz.sizeOf138
  v70 := Tryz.zeroValue138
  t76 := Tryz.underlying140
  a76 := Tryz.isAgg140
  z76 := Tryz.sizeOf140
  v76 := Tryz.zeroValue140
  t77 := Tryz.underlying56
  a77 := Tryz.isAgg56
  z77 := Tryz.sizeOf56
  v77 := Tryz.zeroValue56 }
open Go.RowKit Go.Lib Go.Sort in
/-- **slices.SortFunc: WHAT THE ROW HOLDS, TO THE ELEMENT.** (LAID AT THE INSTANCE 'slices.SortFunc[[][]int,[]int]': no walk: one application.) -/
theorem Tryz.slices_SortFunc_eq {α : Type} [Inhabited α] (enc : α → Value) (h1 : OneCell enc) (cf : α → α → Int) (hO : SWO (ltOf cf)) (g : Nat) (cb : Array Value) (blk off cap : Nat) (d : Array α) (w : World) (eg : ∀ args w, (callFunc g args).run Tryz.prog w = .ok (.enter g args) w) (hcmp : CmpLays1 Tryz.prog g cb enc cf blk off d.size w) (hH : Holds enc w blk off d) (hblk : blk < w.heap.size) (hsz : d.size < 4611686018427387904) :
    Calls Tryz.prog 107 #[.slice (some ⟨blk, off, none⟩) d.size cap, .func (.func g) #[] cb] w fun e w' =>
      e = .returned (.tuple #[]) ∧ ∃ n os, w' = sortWorld enc w blk off n (pdq (ltOf cf) d 0 d.size (Lib.bitLen d.size) true true) os := Any.slices_SortFunc_eq Tryz.laysSlF6_f107 enc h1 cf hO g cb blk off cap d w eg hcmp hH hblk hsz
open Go.RowKit Go.Lib Go.Sort in
/-- **slices.SortFunc, IN THE DOCUMENTATION's OWN TERMS: A PERMUTATION OF WHAT THE ROW HELD, SORTED BY 'cmp(a, b) < 0'.** Which of two equals comes first is left open ("The sort is not guaranteed to be stable"). (LAID AT THE INSTANCE 'slices.SortFunc[[][]int,[]int]': no walk: one application.) -/
theorem Tryz.slices_SortFunc {α : Type} [Inhabited α] (enc : α → Value) (h1 : OneCell enc) (cf : α → α → Int) (hO : SWO (ltOf cf)) (g : Nat) (cb : Array Value) (blk off cap : Nat) (d : Array α) (w : World) (eg : ∀ args w, (callFunc g args).run Tryz.prog w = .ok (.enter g args) w) (hcmp : CmpLays1 Tryz.prog g cb enc cf blk off d.size w) (hH : Holds enc w blk off d) (hblk : blk < w.heap.size) (hsz : d.size < 4611686018427387904) :
    Calls Tryz.prog 107 #[.slice (some ⟨blk, off, none⟩) d.size cap, .func (.func g) #[] cb] w fun e w' =>
      e = .returned (.tuple #[]) ∧ ∃ d' n os, PermIn 0 d.size d d' ∧ SortedIn (ltOf cf) 0 d.size d' ∧ w' = sortWorld enc w blk off n d' os := Any.slices_SortFunc Tryz.laysSlF6_f107 enc h1 cf hO g cb blk off cap d w eg hcmp hH hblk hsz
end Go.Proofs
namespace Go.Proofs.YtgojdlbidjnmmaaGreat
open Go.ChangeShapes Go.WideShapes Go.ChangeAt Go.RowKit
set_option linter.unusedSimpArgs false
set_option linter.unusedVariables false

set_option maxHeartbeats 1000000 in
theorem cmpPair (gu cu gv cv : Nat) (x y : Int) (W : World) (hx : W.cell? ⟨gu, 0, none⟩ = some (.int .i64 x)) (hy : W.cell? ⟨gv, 0, none⟩ = some (.int .i64 y)) (h0 : 0 ≤ x) (h1 : x ≤ 1000) (h2 : 0 ≤ y) (h3 : y ≤ 1000) :
    Calls Tryz.prog 108 #[.slice (some ⟨gu, 0, none⟩) 2 cu, .slice (some ⟨gv, 0, none⟩) 2 cv] W fun e w' => e = .returned (.int .i64 (x - y)) ∧ ∃ q, w' = W.drewN q := by
  go_enter Tryz.func108, Tryz.ntmps108
  go_wp2_with fail
  go_quiet (fail)
  go_wp2_with fail
  go_ret
  exact ⟨rfl, _, rfl⟩
theorem ins_none (p : Option Addr) (cap : Nat) (fv : Value) (w : World) : Calls Tryz.prog 144 #[.slice p 0 cap, .int .i64 0, .int .i64 0, fv] w fun e w' => e = .returned (.tuple #[]) ∧ w' = w := by
  go_enter Tryz.func144, Tryz.ntmps144
  go_wp2
  go_rounds 1
  go_end0
  exact ⟨rfl, rfl⟩
theorem pdq_none (p : Option Addr) (cap : Nat) (lim : Int) (fv : Value) (w : World) : Calls Tryz.prog 136 #[.slice p 0 cap, .int .i64 0, .int .i64 0, .int .i64 lim, fv] w fun e w' => e = .returned (.tuple #[]) ∧ w' = w := by
  go_enter Tryz.func136, Tryz.ntmps136
  go_wp2
  refine wp_loop_rounds 1 ?_
  rw [rounds_succ]
  go_wp2_with (go_at_call 144; refine (ins_none _ _ _ _).mono ?_; rintro e w' ⟨rfl, rfl⟩)
  (try simp only [Exit.inBlock, Exit.then]); refine bodyPost_ret (results_none rfl _ _ _) rfl ?_
  exact ⟨rfl, rfl⟩
theorem sort_none (v : Option Addr) (c : Nat) (w : World) : Calls Tryz.prog 107 #[.slice v 0 c, .func (.func 108) #[] #[]] w fun e w' => e = .returned (.tuple #[]) ∧ w' = w := by
  have hl : ∀ W, Calls Tryz.prog 137 #[.int .u64 0] W fun e w' => e = .returned (.int .i64 (Lib.bitLen 0 : Nat)) ∧ w' = W := fun W => Tryz.bits_Len 0 W (by omega) (by omega)
  go_enter Tryz.func107, Tryz.ntmps107
  go_wp2_with (first | (go_at_call 137; refine (hl _).mono ?_; rintro e w' ⟨rfl, rfl⟩) | (go_at_call 136; refine (pdq_none _ _ _ _ _).mono ?_; rintro e w' ⟨rfl, rfl⟩))
  go_end0
  exact ⟨rfl, rfl⟩
theorem ofFn_all {β : Type} {m : Nat} {l : List β} (h : l.length = m) : (Array.ofFn (fun i : Fin m => i)).toList.map (fun i => l[i.1]'(by rw [h]; exact i.2)) = l := by
  apply List.ext_getElem
  · simp [h]
  · intro j h1 h2
    rw [List.getElem_map]
    have hv : ((Array.ofFn (fun i : Fin m => i)).toList[j]'(by simpa using h1)).1 = j := by rw [Array.getElem_toList, Array.getElem_ofFn]
    simp only [hv]
theorem ext_all {α : Type} (d : Array α) (n : Nat) (h : d.size = n) : d.extract 0 n = d := by subst h; exact Array.extract_size
set_option maxHeartbeats 1000000 in
theorem implSort (g M cap B : Nat) (zs : List (Value × List Int)) (P : List (Nat × Nat)) (w : World) (h : RZ w B (.slice (some ⟨g, 0, none⟩) (M + 1) cap) zs) (hP : zs.map (·.2) = rowsP P) (hne : P.Pairwise (fun a b => a.1 ≠ b.1)) (hb : ∀ p ∈ P, p.1 ≤ 1000) (hM : M ≤ 1000) :
    Calls Tryz.prog 107 #[.slice (some ⟨g, 0, none⟩) (M + 1) cap, .func (.func 108) #[] #[]] w fun e w' => e = .returned (.tuple #[]) ∧ (∃ zs', RZ w' B (.slice (some ⟨g, 0, none⟩) (M + 1) cap) zs' ∧ zs'.map (·.2) = rowsP (srtB P)) ∧ Below B w w' := by
  have hzl : zs.length = M + 1 := by
    obtain ⟨_, _, e⟩ := h.slc
    simp only [Value.slice.injEq] at e
    omega
  have hPl : P.length = M + 1 := by have := congrArg List.length hP; rw [rowsP_len, List.length_map] at this; omega
  have hrow : ∀ i : Fin (M + 1), (zs[i.1]'(by omega)).2 = rowP (P[i.1]'(by omega)) := fun i => by
    have := congrArg (fun l => l[i.1]?) hP
    simpa [rowsP, hzl, hPl, i.2] using this
  let _i : Inhabited (Fin (M + 1)) := ⟨⟨0, by omega⟩⟩
  let enc : Fin (M + 1) → Value := fun i => (zs[i.1]'(by omega)).1
  let a : Fin (M + 1) → Nat := fun i => (P[i.1]'(by omega)).1
  let cf : Fin (M + 1) → Fin (M + 1) → Int := fun i j => (a i : Int) - (a j : Int)
  let d : Array (Fin (M + 1)) := Array.ofFn fun i => i
  have hds : d.size = M + 1 := Array.size_ofFn
  have hdj : ∀ j, (hj : j < M + 1) → d[j]! = ⟨j, hj⟩ := fun j hj => by
    rw [getElem!_pos d j (by rw [hds]; exact hj)]; simp [d]
  have hlt : ∀ i j, ltOf cf i j = decide (a i < a j) := fun i j => by
    unfold ltOf; simp only [cf]; rw [decide_eq_decide]; omega
  have hO : Go.Sort.SWO (ltOf cf) := ⟨fun x => by rw [hlt]; simp, fun x y z h1 h2 => by rw [hlt] at *; simp at *; omega, fun x y z h1 h2 => by rw [hlt] at *; simp at *; omega⟩
  have hform : ∀ i : Fin (M + 1), ∃ gu cu, enc i = .slice (some ⟨gu, 0, none⟩) 2 cu ∧ gu < w.heap.size ∧ gu ≠ g ∧ w.cell? ⟨gu, 0, none⟩ = some (.int .i64 (a i : Int)) := fun i => by
    have hr := h.rowAt i.1 (by omega)
    have hap := h.apv _ (List.getElem_mem (l := zs) (n := i.1) (by omega))
    rw [hrow i] at hr
    obtain ⟨gu, cu, e, _⟩ := OwnI.form1 hr (by simp [rowP])
    have hl2 : (rowP (P[i.1]'(by omega))).length = 2 := rfl
    rw [hl2] at e
    rw [e] at hr hap
    refine ⟨gu, cu, e, (hr.lt gu rfl).2, fun e2 => hap g rfl (by rw [e2]; rfl), ?_⟩
    rw [hr.cellN 0 (by omega)]; rfl
  have hone : OneCell enc := fun i => by obtain ⟨gu, cu, e, _⟩ := hform i; rw [e]; rfl
  have ha : ∀ i, a i ≤ 1000 := fun i => hb _ (List.getElem_mem _)
  have hcmp : CmpReads Tryz.prog 108 #[] enc cf g 0 d.size w := fun m os dk hs x y => by
    obtain ⟨gu, cu, e1, l1, n1, c1⟩ := hform x
    obtain ⟨gv, cv, e2, l2, n2, c2⟩ := hform y
    rw [e1, e2]
    have hown := h.own
    rw [hzl] at hown
    have hkeep := (sorted_world (enc := enc) (n := m) (os := os) hown (hs.trans hds)).2.2
    exact cmpPair gu cu gv cv _ _ _ ((World.cell?_of_block (hkeep gu l1 n1)).trans c1) ((World.cell?_of_block (hkeep gv l2 n2)).trans c2) (by omega) (by have := ha x; omega) (by omega) (by have := ha y; omega)
  have hH : Go.Sort.Holds enc w g 0 d := fun j hj => by
    rw [hds] at hj
    refine ⟨?_, ?_⟩
    · rw [hdj j hj, Nat.zero_add, h.cellAt j (by omega)]
    · have := h.own; rw [hzl] at this; rw [Nat.zero_add]; exact this.frozen j
  have hcon := Tryz.slices_SortFunc enc hone cf hO 108 #[] g 0 cap d w (enters_of Tryz.func108 (by kernel_rfl) rfl) hcmp.lays hH ((h.lt g rfl).2) (by rw [hds]; omega)
  rw [hds] at hcon
  refine hcon.mono ?_
  rintro e w' ⟨rfl, d', n, os, hp, hs, rfl⟩
  obtain ⟨hp1, _, hp3⟩ := hp
  rw [hds] at hp1
  have hdf : d'.toList.Perm d.toList := by
    have e1 : d'.extract 0 (M + 1) = d' := ext_all d' _ hp1
    have e2 : d.extract 0 (M + 1) = d := ext_all d _ hds
    rwa [e1, e2] at hp3
  have hdl : d.toList.map (fun i => zs[i.1]'(by omega)) = zs := ofFn_all hzl
  have hdp : d.toList.map (fun i => P[i.1]'(by omega)) = P := ofFn_all hPl
  have hzp : (d'.toList.map (fun i => zs[i.1]'(by omega))).Perm zs := by
    have := hdf.map (fun i : Fin (M + 1) => zs[i.1]'(by omega)); rwa [hdl] at this
  have hpp : (d'.toList.map (fun i => P[i.1]'(by omega))).Perm P := by
    have := hdf.map (fun i : Fin (M + 1) => P[i.1]'(by omega)); rwa [hdp] at this
  have hsrt : d'.toList.map (fun i => P[i.1]'(by omega)) = srtB P := by
    refine srt_uniq hpp hne ?_
    rw [List.pairwise_iff_getElem]
    intro i j hi hj hij
    simp only [List.length_map, Array.length_toList] at hi hj
    have := hs i j (Nat.zero_le _) hij (by omega)
    rw [hlt, getElem!_pos d' i hi, getElem!_pos d' j hj] at this
    simpa [a] using this
  obtain ⟨ho, hsz, hkeep⟩ := sorted_world (enc := enc) (n := n) (os := os) (d' := d') (by have := h.own; rw [hzl] at this; exact this) hp1
  have hgB := h.lt g rfl
  refine ⟨rfl, ⟨_, h.perm hzp ?_ (fun b hb hne => hkeep b hb (fun e => hne (by rw [e]; rfl))), ?_⟩, rfl, rfl, rfl, hsz, fun b hb => hkeep b (by omega) (by omega)⟩
  · have e1 : (d'.toList.map (fun i => zs[i.1]'(by omega))).length = M + 1 := by simp [hp1]
    rw [e1, List.map_map]; exact ho
  · rw [← hsrt, List.map_map, rowsP, List.map_map]
    apply List.map_congr_left
    intro i _
    exact hrow i
end Go.Proofs.YtgojdlbidjnmmaaGreat
namespace Go.Proofs.YtgojdlbidjnmmaaGreat
open Go.ChangeShapes Go.WideShapes Go.ChangeAt Go.RowKit
set_option linter.unusedSimpArgs false

set_option maxHeartbeats 2000000 in
theorem implCls (v : Value) (l : List Int) (n : Nat) (w : World) (hn : l.length = n) (hv : Arg w v l) (hl : n ≤ 4194304) :
    Calls Tryz.prog 98 #[v] w fun e w' => e = .returned (.bool (clsOk (fn l) n)) ∧ w' = w := by
  rcases hv with ⟨a, cap, rfl, rfl⟩ | ⟨b, off, cap, rfl, hb, hlc, hcm, hat⟩
  · subst hn
    go_enter Tryz.func98, Tryz.ntmps98
    go_wp2
    go_rounds 1
    go_ret
    exact ⟨retBool rfl, rfl⟩
  · rw [hn]
    have HN : Hid _ := hn
    have HA : Hid _ := hat
    clear hn hat hlc
    by_cases h80 : 80 < n
    · have h80' : (80 : Int) < (n : Int) := by omega
      go_enter Tryz.func98, Tryz.ntmps98
      go_wp2
      go_ret
      exact ⟨retBool (clsOk_long h80).symm, rfl⟩
    · go_enter Tryz.func98, Tryz.ntmps98
      go_wp2
      go_loop [10] (fun i => ∃ k : Nat, k ≤ n ∧ i = .int .i64 k ∧ Hid (∀ j, j < k → 1 ≤ fn l j ∧ fn l j ≤ 22)) (fun i => n - (intOf i).toNat)
      case atStart => exact ⟨0, Nat.zero_le _, rfl, fun j hj => by omega⟩
      case round =>
        obtain ⟨k, hk, rfl, hall⟩ := hrel
        by_cases hlt : k < n
        · have hcell : w.cell? ⟨b, off + k, none⟩ = some (.int .i64 (fn l k)) := HA.out k (by rw [HN.out]; exact hlt)
          by_cases q1 : fn l k < 1
          · go_wp2
            go_ret
            exact ⟨retBool (clsOk_no hlt (by omega)).symm, rfl⟩
          · by_cases q2 : 22 < fn l k
            · go_wp2
              go_ret
              exact ⟨retBool (clsOk_no hlt (by omega)).symm, rfl⟩
            · go_wp2
              refine ⟨⟨k + 1, by omega, by go_num, fun j hj => ?_⟩, by simp only [intOf]; omega⟩
              by_cases e : j = k
              · subst e; omega
              · exact hall.out j (by omega)
        · have e : k = n := by omega
          subst e
          go_wp2
          go_ret
          exact ⟨retBool (by rw [clsOk_yes hall.out]; simp; omega), rfl⟩

end Go.Proofs.YtgojdlbidjnmmaaGreat
namespace Go.Proofs.YtgojdlbidjnmmaaGreat
open Go.ChangeShapes Go.WideShapes Go.ChangeAt Go.RowKit
set_option linter.unusedSimpArgs false
set_option linter.unusedVariables false

theorem BS.add {w w2 w' : World} {B n : Nat} {v vo v' vx : Value} {x : List Int} {zs : List (Value × List Int)} {O : List Nat} (hn : zs.length = n) (h : BS w B v vo zs O) (hB : B ≤ w.heap.size) (hb : Below w.heap.size w w2) (hx : OwnI w2 w.heap.size vx x) (ho : OwnV 23 1 w' B v' (n + 1) (zs.map (·.1) ++ [vx])) (hg : w2.grownBy w' v.ownBlock) (hv : v'.ownBlock = v.ownBlock ∨ ∃ H, v'.ownBlock = some H ∧ w2.heap.size ≤ H) : BS w' B v' vo (zs ++ [(vx, x)]) O := by
  refine ⟨h.rz.snoc hn hB hb hx ho hg hv, (h.op.below hb).kept (fun k hk => hg.block k (Nat.lt_of_lt_of_le (h.op.lt k hk).2 hb.size) (fun e => h.ap k e.symm hk)), fun k h1 h2 => ?_, fun q hq k h1 h2 => ?_⟩
  · rcases hv with e | ⟨H, e, hH⟩
    · exact h.ap k (by rw [← e]; exact h1) h2
    · rw [h1] at e; simp at e; have := (h.op.lt k h2).2; have := hb.size; omega
  · simp at hq
    rcases hq with hq | rfl
    · exact h.apz q hq k h1 h2
    · have := (hx.lt k h1).1; have := (h.op.lt k h2).2; omega
/-- What goes together. -/
def mateR (l c : List Int) : List (List Int) := if okF (fn l) l.length = true ∧ clsOk (fn c) c.length = true ∧ l.length = c.length then rowsP (srtB (stB (fn l) (fn c) mate l.length).2) else []

set_option maxRecDepth 10000 in
set_option maxHeartbeats 8000000 in
theorem implMates_row (ba oa bb ob n cap cb : Nat) (L C : List Int) (w : World) (hLl : L.length = n) (hCl : C.length = n) (hn80 : n ≤ 80) (hba : ba < w.heap.size) (hbb : bb < w.heap.size) (hL : At w ba oa L) (hC : At w bb ob C) (hok : Calls Tryz.prog 56 #[.slice (some ⟨ba, oa, none⟩) n cap] w fun e w' => e = .returned (.bool true) ∧ w' = w) (hcls : Calls Tryz.prog 98 #[.slice (some ⟨bb, ob, none⟩) n cb] w fun e w' => e = .returned (.bool true) ∧ w' = w) :
    Calls Tryz.prog 67 #[.slice (some ⟨ba, oa, none⟩) n cap, .slice (some ⟨bb, ob, none⟩) n cb] w fun e w' => (∃ v zs, e = .returned v ∧ RZ w' w.heap.size v zs ∧ zs.map (·.2) = rowsP (srtB (stB (fn L) (fn C) mate n).2)) ∧ Below w.heap.size w w' := by
  have HA : Hid (∀ wr, Below w.heap.size w wr → ∀ j, j < n → wr.cell? ⟨ba, oa + j, none⟩ = some (.int .i64 (fn L j))) := fun wr hb j hj => (hb.cell (p := ⟨ba, oa + j, none⟩) hba).trans (hL j (by omega))
  have HC : Hid (∀ wr, Below w.heap.size w wr → ∀ j, j < n → wr.cell? ⟨bb, ob + j, none⟩ = some (.int .i64 (fn C j))) := fun wr hb j hj => (hb.cell (p := ⟨bb, ob + j, none⟩) hbb).trans (hC j (by omega))
  have HOK : Hid _ := hok
  have HCLS : Hid _ := hcls
  clear hL hC hLl hCl hba hbb hok hcls
  go_enter Tryz.func67, Tryz.ntmps67
  go_wp2_with (first | (go_at_call 56; refine Calls.mono HOK.out ?_; rintro e w1 ⟨rfl, hw1⟩; rw [hw1]; clear hw1 w1) | (go_at_call 98; refine Calls.mono HCLS.out ?_; rintro e w1 ⟨rfl, hw1⟩; rw [hw1]; clear hw1 w1))
  go_loopw [5, 6, 28] (fun v vo i wr => ∃ (k : Nat) (zs : List (Value × List Int)), i = .int .i64 k ∧ k ≤ n ∧ Hid (BS wr w.heap.size v vo zs (stB (fn L) (fn C) mate k).1) ∧ Hid (zs.map (·.2) = rowsP (stB (fn L) (fn C) mate k).2) ∧ Hid (Below w.heap.size w wr)) (fun _ _ i _ => n - (intOf i).toNat)
  case atStart =>
    refine ⟨0, [], rfl, Nat.zero_le _, ⟨RZ.nil _ _, OwnI.nil _ _, fun k h1 h2 => by simp [Value.ownBlock] at h1, fun q hq => by simp at hq⟩, rfl, Below.refl _ _⟩
  case round =>
    obtain ⟨k, zs, rfl, hk, hBS, hzm, hbel⟩ := hrel
    obtain ⟨⟨O, P⟩, hst⟩ : ∃ s, stB (fn L) (fn C) mate k = s := ⟨_, rfl⟩
    have hOl : O.length ≤ k := by have := (st_len (fn L) (fn C) mate k).1; rw [hst] at this; exact this
    have hPl : P.length ≤ k := by have := (st_len (fn L) (fn C) mate k).2; rw [hst] at this; exact this
    rw [hst] at hBS hzm
    replace hBS : Hid (BS wr w.heap.size u5 u6 zs O) := hBS
    replace hzm : Hid (zs.map (·.2) = rowsP P) := hzm
    obtain ⟨N, hNl⟩ : ∃ N, zs.length = N := ⟨_, rfl⟩
    have hNP : N = P.length := by
      have h2 := congrArg List.length hzm.out
      rw [List.length_map, rowsP_len] at h2; omega
    have HNP : Hid (N = P.length) := hNP
    have HNL : Hid (zs.length = N) := hNl
    have hN80 : N ≤ 80 := by omega
    clear hNl hNP
    by_cases hlt : k < n
    · have hki : (k : Int) < (n : Int) := by omega
      obtain ⟨x, hx⟩ : ∃ x, fn L k = x := ⟨_, rfl⟩
      obtain ⟨c, hc⟩ : ∃ c, fn C k = c := ⟨_, rfl⟩
      obtain ⟨m, hm⟩ : ∃ m, mate x = m := ⟨_, rfl⟩
      have HM : Hid (∀ W, Calls Tryz.prog 54 #[.int .i64 x] W fun e w' => e = .returned (.int .i64 m) ∧ w' = W) := fun W => by rw [← hm]; exact implMate x W
      have HS := stB_succ hst hm hx hc
      have hcx : wr.cell? ⟨ba, oa + k, none⟩ = some (.int .i64 x) := by rw [HA.out wr hbel.out k hlt, hx]
      have hcc : wr.cell? ⟨bb, ob + k, none⟩ = some (.int .i64 c) := by rw [HC.out wr hbel.out k hlt, hc]
      have HST : Hid (stB (fn L) (fn C) mate k = (O, P)) := hst
      clear hst hm hx hc
      by_cases h0 : m = 0 ∨ c ≠ 13
      · rw [if_pos h0] at HS
        have HS' : Hid (stB (fn L) (fn C) mate (k + 1) = (O, P)) := HS
        clear HS
        by_cases h1 : m = 0
        · subst h1
          clear h0
          go_wp2_with (go_at_call 54; refine (HM.out _).mono ?_; rintro e w4 ⟨rfl, hw4⟩; rw [hw4]; clear hw4 w4)
          go_roundw
          case rel => exact ⟨k + 1, zs, by go_num, by omega, by rw [HS'.out]; exact hBS.out, by rw [HS'.out]; exact hzm.out, hbel.out⟩
          case measure => simp only [intOf]; omega
        · have h2 : c ≠ 13 := by rcases h0 with h | h; exact absurd h h1; exact h
          have hm0 : (m == 0) = false := by simpa using h1
          have hc13 : (c == 13) = false := by simpa using h2
          clear h0
          go_wp2_with (go_at_call 54; refine (HM.out _).mono ?_; rintro e w4 ⟨rfl, hw4⟩; rw [hw4]; clear hw4 w4)
          go_roundw
          case rel => exact ⟨k + 1, zs, by go_num, by omega, by rw [HS'.out]; exact hBS.out, by rw [HS'.out]; exact hzm.out, hbel.out⟩
          case measure => simp only [intOf]; omega
      · rw [if_neg h0] at HS
        have h1 : ¬ m = 0 := fun e => h0 (.inl e)
        have h2 : c = 13 := by
          by_cases e : c = 13
          · exact e
          · exact absurd (.inr e) h0
        have hm0 : (m == 0) = false := by simpa using h1
        subst h2
        clear h0
        by_cases hxm : x < m
        · rw [if_pos hxm] at HS
          have HS' : Hid (stB (fn L) (fn C) mate (k + 1) = (O ++ [k], P)) := HS
          clear HS
          go_wp2_with (first | (go_at_call 54; refine (HM.out _).mono ?_; rintro e w4 ⟨rfl, hw4⟩; rw [hw4]; clear hw4 w4) | (at_builtin; refine own_append_at (.tmp 47) (.tmp 49) hBS.out.op (by rw [natL_len]; omega) hbel.out.size rfl rfl rfl rfl ?_; intro v' w6 ho6 hg6 hv6; have HO6 : Hid (OwnI w6 w.heap.size v' (natL O ++ [(k : Int)])) := ho6; have HG6 : Hid (wr.grownBy w6 u6.ownBlock) := hg6; have HV6 : Hid (v'.ownBlock = u6.ownBlock ∨ v'.ownBlock = some (wr.heap.size + 1)) := hv6; clear ho6 hg6 hv6))
          go_roundw
          case rel =>
            refine ⟨k + 1, zs, by go_num, by omega, ?_, by rw [HS'.out]; exact hzm.out, ?_⟩
            · rw [HS'.out]
              exact hBS.out.push (x := k) (by rw [natL_app]; exact HO6.out) HG6.out HV6.out
            · exact hbel.out.grown HG6.out hbel.out.size (fun b hb => (hBS.out.op.lt b hb).1)
          case measure => simp only [intOf]; omega
        · rw [if_neg hxm] at HS
          have HS' : Hid (stB (fn L) (fn C) mate (k + 1) = shutB (fn L) m k O P (scanF (fn L) O m O.length)) := HS
          clear HS
          obtain ⟨lo, hlo⟩ : ∃ lo, O.length = lo := ⟨_, rfl⟩
          obtain ⟨ao, no, co, hvo, hno⟩ := hBS.out.op.slicZ
          rw [natL_len, hlo] at hno
          subst hno
          subst hvo
          rw [hlo] at hOl
          have HLO : Hid (O.length = lo) := hlo
          clear hlo
          go_wp2_with (first | (go_at_call 54; refine (HM.out _).mono ?_; rintro e w4 ⟨rfl, hw4⟩; rw [hw4]; clear hw4 w4))
          go_loop [5, 6, 10] (fun v5 v6 j => v5 = u5 ∧ v6 = .slice ao lo co ∧ ∃ q : Nat, j = .int .i64 ((q : Int) - 1) ∧ q ≤ lo ∧ Hid (scanF (fn L) O m lo = scanF (fn L) O m q)) (fun _ _ j => (intOf j + 1).toNat)
          case atStart => exact ⟨rfl, rfl, lo, rfl, Nat.le_refl _, rfl⟩
          case round =>
            obtain ⟨rfl, rfl, q, rfl, hq, hsc⟩ := hrel
            cases q with
            | zero =>
              have HSN : Hid (stB (fn L) (fn C) mate (k + 1) = (O, P)) := by
                unfold Hid; rw [HS'.out, HLO.out, hsc.out]; rfl
              go_wp2_with fail
              go_roundw
              case rel => exact ⟨k + 1, zs, by go_num, by omega, by rw [HSN.out]; exact hBS.out, by rw [HSN.out]; exact hzm.out, hbel.out⟩
              case measure => simp only [intOf]; omega
            | succ q =>
              rw [show ((q + 1 : Nat) : Int) - 1 = (q : Int) by omega]
              have hOq : q < O.length := by rw [HLO.out]; omega
              obtain ⟨go, co', e, hlc⟩ := hBS.out.op.form1 (by intro e; have := congrArg List.length e; rw [natL_len] at this; simp at this; rw [this] at hOq; simp at hOq)
              rw [natL_len, HLO.out] at hlc e
              simp only [Value.slice.injEq] at e
              obtain ⟨rfl, _, rfl⟩ := e
              obtain ⟨o, ho⟩ : ∃ o, O.getD q 0 = o := ⟨_, rfl⟩
              have ho2 : O[q] = o := by rw [← ho]; simp [hOq]
              have hok : o < k := by
                have := (good_st (fn L) (fn C) mate k).lt o
                rw [HST.out] at this
                exact this (by rw [← ho2]; exact List.getElem_mem hOq)
              have hco : wr.cell? ⟨go, q, none⟩ = some (.int .i64 (o : Int)) := by
                rw [hBS.out.op.cellN q (by omega), fn_natL hOq, ho2]
              have hcr : wr.cell? ⟨ba, oa + o, none⟩ = some (.int .i64 (fn L o)) := HA.out _ hbel.out o (by omega)
              obtain ⟨y, hy⟩ : ∃ y, fn L o = y := ⟨_, rfl⟩
              rw [hy] at hcr
              have hqi : (q : Int) < (lo : Int) := by omega
              have hoi : (o : Int) < (n : Int) := by omega
              have hqc : (q : Int) ≤ (co : Int) := by omega
              by_cases hym : y = m
              · have hyb : (y == m) = true := by simpa using hym
                have HSC : Hid (stB (fn L) (fn C) mate (k + 1) = (O.take q, P ++ [(o, k)])) := by
                  unfold Hid; rw [HS'.out, HLO.out, hsc.out]
                  simp only [scanF, ho, hy, if_pos hym, shutB]
                obtain ⟨W, hW⟩ : ∃ W, wr.alloc (.cells #[.int .i64 (o : Int), .int .i64 (k : Int)] 3) = W := ⟨_, rfl⟩
                have hBW : Below wr.heap.size wr W := by rw [← hW]; exact (Below.refl _ _).alloc (Nat.le_refl _) _
                have HBW : Hid (Below wr.heap.size wr W) := hBW
                have hWs : W.heap.size = wr.heap.size + 1 := by rw [← hW]; simp
                have HWS : Hid (W.heap.size = wr.heap.size + 1) := hWs
                have HOP : Hid (OwnI W wr.heap.size (.slice (some ⟨wr.heap.size, 0, none⟩) 2 2) (rowP (o, k))) := by rw [← hW]; exact own_lit2 wr _ _ _ _ (Nat.le_refl _) rfl
                have HOV : Hid (OwnV 23 1 W w.heap.size u5 N (zs.map (·.1))) := by have := (hBS.out.rz.own).below hBW; rw [HNL.out] at this; exact this
                have hwW : w.heap.size ≤ W.heap.size := by have := hbel.out.size; omega
                clear hym ho ho2 hy hlc hBW hWs
                subst hW
                go_wp2_with (at_builtin; refine own_appendV (k := 1) (b := 24) (T := 23) (TS := 78) (.tmp 67) (.tmp 74) HWS.out rowSS Tryz.underlying78 HOV.out (by omega) hwW (by omega) (by omega) rfl (by simp [Value.oneCell']) rfl rfl rfl rfl ?_; intro v8 w8 ho8 hg8 hv8; have HO8 : Hid (OwnV 23 1 w8 w.heap.size v8 (N + 1) (zs.map (·.1) ++ [.slice (some ⟨wr.heap.size, 0, none⟩) 2 2])) := ho8; have HG8 : Hid (World.grownBy _ w8 (Value.ownBlock u5)) := hg8; have HV8 : Hid (v8.ownBlock = u5.ownBlock ∨ ∃ H, v8.ownBlock = some H ∧ wr.heap.size + 1 ≤ H) := (by rcases hv8 with e | e; exact .inl e; exact .inr ⟨_, e, by rw [HWS.out]; omega⟩); clear ho8 hg8 hv8)
                go_roundw
                case rel =>
                  refine ⟨k + 1, zs ++ [(.slice (some ⟨wr.heap.size, 0, none⟩) 2 2, rowP (o, k))], by go_num, by omega, ?_, ?_, (hbel.out.trans (HBW.out.mono hbel.out.size)).grown HG8.out hwW (fun b hb => (HOV.out.lt b hb).1)⟩
                  · rw [HSC.out]
                    refine (hBS.out.add HNL.out hbel.out.size HBW.out HOP.out HO8.out HG8.out ?_).cut (by omega)
                    rcases HV8.out with e | e
                    · exact .inl e
                    · obtain ⟨H, e, h⟩ := e
                      exact .inr ⟨H, e, by rw [HWS.out]; exact h⟩
                  · rw [HSC.out, List.map_append, hzm.out]
                    show rowsP P ++ [rowP (o, k)] = rowsP (P ++ [(o, k)])
                    simp [rowsP]
                case measure => simp only [intOf]; omega
              · have hyb : (y == m) = false := by simpa using hym
                have hsc2 : Hid (scanF (fn L) O m lo = scanF (fn L) O m q) := by
                  unfold Hid; rw [hsc.out]
                  simp only [scanF, ho, hy, if_neg hym]
                clear hym ho ho2 hy hlc
                go_wp2_with fail
                go_round
                case rel => exact ⟨rfl, rfl, q, rfl, by omega, hsc2⟩
                case measure => simp only [intOf]; omega
    · have e : k = n := by omega
      subst e
      have hgood := good_st (fn L) (fn C) mate k
      rw [hst] at hgood
      have HST : Hid (stB (fn L) (fn C) mate k = (O, P)) := hst
      have HNE : Hid (P.Pairwise (fun a b => a.1 ≠ b.1)) := hgood.ne
      have HLE : Hid (∀ p ∈ P, p.1 ≤ 1000) := fun p hp => by obtain ⟨h1, h2⟩ := hgood.lt2 p hp; omega
      clear hst hgood
      cases N with
      | zero =>
        have hz0 : zs = [] := List.eq_nil_of_length_eq_zero HNL.out
        have hP0 : P = [] := List.eq_nil_of_length_eq_zero HNP.out.symm
        subst hz0
        subst hP0
        obtain ⟨a5, c5, rfl⟩ := hBS.out.rz.slc
        simp only [List.length_nil]
        go_wp2_with (go_at_call 107; refine (sort_none _ _ _).mono ?_; rintro e w5 ⟨rfl, rfl⟩)
        go_ret
        exact ⟨⟨_, [], rfl, hBS.out.rz, by rw [HST.out]; rfl⟩, hbel.out⟩
      | succ M =>
        obtain ⟨g5, c5, e5, _⟩ := hBS.out.rz.own.form1 (by rw [HNL.out]; omega)
        rw [HNL.out] at e5
        subst e5
        go_wp2_with (go_at_call 107; refine (implSort g5 M c5 w.heap.size zs P _ hBS.out.rz hzm.out HNE.out HLE.out (by omega)).mono ?_; rintro e w5 ⟨rfl, ⟨zs', hz5, hm5⟩, b5⟩)
        go_ret
        exact ⟨⟨_, zs', rfl, hz5, by rw [HST.out]; exact hm5⟩, hbel.out.trans b5⟩
end Go.Proofs.YtgojdlbidjnmmaaGreat
namespace Go.Proofs.YtgojdlbidjnmmaaGreat
open Go.ChangeShapes Go.WideShapes Go.ChangeAt Go.RowKit
set_option linter.unusedSimpArgs false
set_option linter.unusedVariables false

theorem mateR_no {l c : List Int} (h : ¬ (okF (fn l) l.length = true ∧ clsOk (fn c) c.length = true ∧ l.length = c.length)) : mateR l c = [] := by unfold mateR; rw [if_neg h]
theorem mateR_nil : mateR [] [] = [] := by
  unfold mateR; split <;> rfl
theorem mateR_yes {l c : List Int} (h1 : okF (fn l) l.length = true) (h2 : clsOk (fn c) c.length = true) (h3 : l.length = c.length) : mateR l c = rowsP (srtB (stB (fn l) (fn c) mate l.length).2) := by unfold mateR; rw [if_pos ⟨h1, h2, h3⟩]
set_option maxHeartbeats 2000000 in
theorem implMates (l c : List Int) (w : World) (a b : Option Addr) (ca cb : Nat) (h1 : Arg w (.slice a l.length ca) l) (h2 : Arg w (.slice b c.length cb) c) (hl1 : l.length ≤ 1048576) (hl2 : c.length ≤ 1048576) :
    Calls Tryz.prog 67 #[.slice a l.length ca, .slice b c.length cb] w fun e w' => (∃ v, e = .returned v ∧ RRX w' w.heap.size v (mateR l c)) ∧ Below w.heap.size w w' := by
  have hok := fun q (e : okF (fn l) l.length = q) => e ▸ implOk _ l w h1 (by omega)
  have hcl := fun q (e : clsOk (fn c) c.length = q) => e ▸ implCls _ c c.length w rfl h2 (by omega)
  obtain ⟨n, hn⟩ : ∃ n, l.length = n := ⟨_, rfl⟩
  obtain ⟨m, hm⟩ : ∃ m, c.length = m := ⟨_, rfl⟩
  have HOK : Hid _ := hok
  have HCL : Hid _ := hcl
  clear hok hcl
  by_cases q1 : okF (fn l) l.length = true
  · by_cases q2 : clsOk (fn c) c.length = true
    · have HO := HOK.out true q1
      have HC := HCL.out true q2
      by_cases q3 : l.length = c.length
      · rw [mateR_yes q1 q2 q3]
        have h80 := okF_len q1
        rw [hm] at q3 h2 HC ⊢
        rw [hn] at q3 h80 h1 HO ⊢
        subst q3
        rcases h1 with ⟨a1, c1, e1, rfl⟩ | ⟨b1, o1, c1, e1, hb1, hlc1, hcm1, hat1⟩
        · simp only [Value.slice.injEq] at e1
          obtain ⟨rfl, rfl, rfl⟩ := e1
          have HOz : Hid _ := HO
          have HCz : Hid _ := HC
          clear HO HC h2 hm hn
          go_enter Tryz.func67, Tryz.ntmps67
          go_wp2_with (first | (go_at_call 56; refine Calls.mono HOz.out ?_; rintro e w1 ⟨rfl, hw1⟩; rw [hw1]; clear hw1 w1) | (go_at_call 98; refine Calls.mono HCz.out ?_; rintro e w1 ⟨rfl, hw1⟩; rw [hw1]; clear hw1 w1))
          refine wp_loop_rounds 1 ?_
          rw [rounds_succ]
          go_wp2_with (go_at_call 107; refine (sort_none _ _ _).mono ?_; rintro e w5 ⟨rfl, hw5⟩; rw [hw5]; clear hw5 w5)
          go_ret
          exact ⟨⟨_, rfl, [], RR.nil _ _⟩, Below.refl _ _⟩
        · rw [hn] at e1 hlc1
          simp only [Value.slice.injEq] at e1
          obtain ⟨rfl, _, rfl⟩ := e1
          rcases h2 with ⟨a2, c2, e2, e3⟩ | ⟨b2, o2, c2, e2, hb2, hlc2, hcm2, hat2⟩
          · simp only [Value.slice.injEq] at e2
            obtain ⟨rfl, rfl, rfl⟩ := e2
            have HOz : Hid _ := HO
            have HCz : Hid _ := HC
            clear HO HC hm hat1 hlc1
            go_enter Tryz.func67, Tryz.ntmps67
            go_wp2_with (first | (go_at_call 56; refine Calls.mono HOz.out ?_; rintro e w1 ⟨rfl, hw1⟩; rw [hw1]; clear hw1 w1) | (go_at_call 98; refine Calls.mono HCz.out ?_; rintro e w1 ⟨rfl, hw1⟩; rw [hw1]; clear hw1 w1))
            refine wp_loop_rounds 1 ?_
            rw [rounds_succ]
            go_wp2_with (go_at_call 107; refine (sort_none _ _ _).mono ?_; rintro e w5 ⟨rfl, hw5⟩; rw [hw5]; clear hw5 w5)
            go_ret
            exact ⟨⟨_, rfl, [], RR.nil _ _⟩, Below.refl _ _⟩
          · rw [hm] at e2 hlc2
            simp only [Value.slice.injEq] at e2
            obtain ⟨rfl, _, rfl⟩ := e2
            refine (implMates_row b1 o1 b2 o2 n ca cb l c w hn hm h80 hb1 hb2 hat1 hat2 HO HC).mono ?_
            rintro e w1 ⟨⟨v, zs, rfl, hz, hmm⟩, b1⟩
            exact ⟨⟨v, rfl, _, by rw [← hmm]; exact hz.rr⟩, b1⟩
      · rw [mateR_no (fun h => q3 h.2.2)]
        rw [hm] at q3 h2 HC ⊢
        rw [hn] at q3 h1 HO ⊢
        have hq3 : ((n : Int) == (m : Int)) = false := by simp; omega
        have HOz : Hid _ := HO
        have HCz : Hid _ := HC
        clear HO HC h2 hm hn h1
        go_enter Tryz.func67, Tryz.ntmps67
        go_wp2_with (first | (go_at_call 56; refine Calls.mono HOz.out ?_; rintro e w1 ⟨rfl, hw1⟩; rw [hw1]; clear hw1 w1) | (go_at_call 98; refine Calls.mono HCz.out ?_; rintro e w1 ⟨rfl, hw1⟩; rw [hw1]; clear hw1 w1))
        go_ret
        exact ⟨⟨_, rfl, [], RR.nil _ _⟩, Below.refl _ _⟩
    · have q2' : clsOk (fn c) c.length = false := by simpa using q2
      have HO := HOK.out true q1
      have HC := HCL.out false q2'
      rw [mateR_no (fun h => q2 h.2.1)]
      rw [hm] at h2 HC ⊢
      rw [hn] at h1 HO ⊢
      have HOz : Hid _ := HO
      have HCz : Hid _ := HC
      clear HO HC h2 hm hn h1
      go_enter Tryz.func67, Tryz.ntmps67
      go_wp2_with (first | (go_at_call 56; refine Calls.mono HOz.out ?_; rintro e w1 ⟨rfl, hw1⟩; rw [hw1]; clear hw1 w1) | (go_at_call 98; refine Calls.mono HCz.out ?_; rintro e w1 ⟨rfl, hw1⟩; rw [hw1]; clear hw1 w1))
      go_ret
      exact ⟨⟨_, rfl, [], RR.nil _ _⟩, Below.refl _ _⟩
  · have q1' : okF (fn l) l.length = false := by simpa using q1
    have HO := HOK.out false q1'
    rw [mateR_no (fun h => q1 h.1)]
    rw [hm] at h2 ⊢
    rw [hn] at h1 HO ⊢
    have HOz : Hid _ := HO
    clear HO h2 hm hn h1
    go_enter Tryz.func67, Tryz.ntmps67
    go_wp2_with (go_at_call 56; refine Calls.mono HOz.out ?_; rintro e w1 ⟨rfl, hw1⟩; rw [hw1]; clear hw1 w1)
    go_ret
    exact ⟨⟨_, rfl, [], RR.nil _ _⟩, Below.refl _ _⟩

end Go.Proofs.YtgojdlbidjnmmaaGreat
namespace Go.Proofs.YtgojdlbidjnmmaaGreat
open Go.ChangeShapes Go.WideShapes Go.ChangeAt Go.RowKit
set_option linter.unusedSimpArgs false

/-- Classes on which the rules work: where they lie, and the side ahead. -/
structure WT (w : World) (R g n cp : Nat) (b : Int) : Prop where
  c0 : w.cell? ⟨R, 0, none⟩ = some (.slice (some ⟨g, 0, none⟩) n cp)
  c1 : w.cell? ⟨R, 1, none⟩ = some (.int .i64 b)
  lt : R < w.heap.size
  ne : R ≠ g
theorem WT.kept {w w' : World} {R g n cp : Nat} {b : Int} (h : WT w R g n cp b) (hg : w.grownBy w' (some g)) : WT w' R g n cp b :=
  ⟨(World.cell?_of_block (a := ⟨R, 0, none⟩) (hg.block R h.lt (fun e => h.ne (by simpa using e)))).trans h.c0,
   (World.cell?_of_block (a := ⟨R, 1, none⟩) (hg.block R h.lt (fun e => h.ne (by simpa using e)))).trans h.c1, Nat.lt_of_lt_of_le h.lt hg.size, h.ne⟩
theorem grownW_refl (w : World) (k : Option Nat) : w.grownBy w k := ⟨rfl, rfl, rfl, Nat.le_refl _, fun _ _ _ => rfl⟩
theorem grown_trans' {a b c : World} {row : Option Nat} (h : a.grownBy b row) (k : b.grownBy c row) : a.grownBy c row :=
  ⟨k.os.trans h.os, k.tape.trans h.tape, k.output.trans h.output, Nat.le_trans h.size k.size, fun i hi hne => (k.block i (Nat.lt_of_lt_of_le hi h.size) hne).trans (h.block i hi hne)⟩
theorem grownW_set {w wr : World} {g j : Nat} {x : Value} (hgr : w.grownBy wr (some g)) : w.grownBy (wr.setCell ⟨g, j, none⟩ x) (some g) :=
  ⟨hgr.os, hgr.tape, hgr.output, by simpa using hgr.size, fun y hy hne => (heap_setCell_other wr ⟨g, j, none⟩ y _ (fun e => hne (by rw [e]))).trans (hgr.block y hy hne)⟩
/-- What a rule leaves: the row as the rule makes it, nothing else turned. -/
def Ruled (w w' : World) (B g n cp : Nat) (L : List Int) : Prop := OwnI w' B (.slice (some ⟨g, 0, none⟩) n cp) L ∧ w.grownBy w' (some g) ∧ w'.heap.size = w.heap.size
/-- The state of a rule's loop. -/
def Ruling (w wr : World) (B g n cp f : Nat) (m z : Nat → Int) : Prop := ∃ L, OwnI wr B (.slice (some ⟨g, 0, none⟩) n cp) L ∧ upTo m z n f L ∧ w.grownBy wr (some g) ∧ wr.heap.size = w.heap.size
theorem Ruling.start {w : World} {B g n cp : Nat} {m : Nat → Int} {l : List Int} (h : OwnI w B (.slice (some ⟨g, 0, none⟩) n cp) l) : Ruling w w B g n cp 0 m (fn l) :=
  ⟨l, h, upTo_zero _ _ _ _ (fun _ _ => rfl), grownW_refl _ _, rfl⟩
theorem Ruling.keep {w wr : World} {B g n cp f : Nat} {m z : Nat → Int} (h : Ruling w wr B g n cp f m z) (hf : f < n) (e : m f = z f) : Ruling w wr B g n cp (f + 1) m z := by
  obtain ⟨L, a, b, c, d⟩ := h; exact ⟨L, a, upTo_keep b hf e, c, d⟩
theorem Ruling.set {w wr : World} {B g n cp f : Nat} {m z : Nat → Int} {x : Int} (h : Ruling w wr B g n cp f m z) (hf : f < n) (e : m f = x) : Ruling w (wr.setCell ⟨g, f, none⟩ (.int .i64 x)) B g n cp (f + 1) m z := by
  obtain ⟨L, a, b, c, d⟩ := h
  exact ⟨L.set f x, a.storedN _ _, upTo_set b a.len hf e, grownW_set c, by rw [World.size_setCell]; exact d⟩
theorem Ruling.fin {w wr : World} {B g n cp : Nat} {m z : Nat → Int} (h : Ruling w wr B g n cp n m z) : Ruled w wr B g n cp (mkL n m) := by
  obtain ⟨L, a, b, c, d⟩ := h
  have e := upTo_end b a.len
  subst e
  exact ⟨a, c, d⟩
theorem Ruling.cell {w wr : World} {B g n cp f : Nat} {m z : Nat → Int} (h : Ruling w wr B g n cp f m z) {j : Nat} (h1 : f ≤ j) (h2 : j < n) : wr.cell? ⟨g, j, none⟩ = some (.int .i64 (z j)) := by
  obtain ⟨L, a, b, _⟩ := h; rw [a.cellN j h2, b.2 j h1 h2]
theorem Ruling.done {w wr : World} {B g n cp f : Nat} {m z : Nat → Int} (h : Ruling w wr B g n cp f m z) {j : Nat} (h1 : j < f) (h2 : j < n) : wr.cell? ⟨g, j, none⟩ = some (.int .i64 (m j)) := by
  obtain ⟨L, a, b, _⟩ := h; rw [a.cellN j h2, b.1 j h1]
theorem Ruling.free {w wr : World} {B g n cp f : Nat} {m z : Nat → Int} (h : Ruling w wr B g n cp f m z) (j : Nat) : wr.frozen? ⟨g, j, none⟩ = false := by
  obtain ⟨L, a, _⟩ := h; exact a.frozenN j
theorem Ruling.wt {w wr : World} {B g n cp f R : Nat} {b : Int} {m z : Nat → Int} (h : Ruling w wr B g n cp f m z) (hw : WT w R g n cp b) : WT wr R g n cp b := by
  obtain ⟨L, _, _, c, _⟩ := h; exact hw.kept c

set_option maxHeartbeats 1000000 in
theorem implR3 (R g n cp B : Nat) (b : Int) (l : List Int) (w : World) (hw : WT w R g n cp b) (hn : Hid (l.length = n)) (hv : OwnI w B (.slice (some ⟨g, 0, none⟩) n cp) l) (hl : n ≤ 80) :
    Calls Tryz.prog 102 #[.pointer (some ⟨R, 0, none⟩)] w fun e w' => e = .returned (.tuple #[]) ∧ Ruled w w' B g n cp (r3 l) := by
  have HR : Hid (r3 l = mkL n (m3 (fn l))) := by show _ = _; unfold r3; rw [hn.out]
  rw [HR.out]
  have HS : Hid (Ruling w w B g n cp 0 (m3 (fn l)) (fn l)) := Ruling.start hv
  have HW : Hid _ := hw
  obtain ⟨q0, q1, q2, q3⟩ := hw
  go_enter Tryz.func102, Tryz.ntmps102
  go_wp2
  clear q0 q1
  go_loopw [9] (fun i wr => ∃ f : Nat, f ≤ n ∧ i = .int .i64 f ∧ Hid (Ruling w wr B g n cp f (m3 (fn l)) (fn l))) (fun i _ => n - (intOf i).toNat)
  case atStart => exact ⟨0, Nat.zero_le _, rfl, HS⟩
  case round =>
    obtain ⟨f, hf, rfl, hr⟩ := hrel
    by_cases hlt : f < n
    · have c := hr.out.cell (Nat.le_refl _) hlt
      have fz := hr.out.free f
      obtain ⟨q0, q1, _, _⟩ := hr.out.wt HW.out
      by_cases e3 : fn l f = 3
      · have E3 : Hid _ := e3
        rw [e3] at c
        clear e3
        go_wp2
        go_roundw
        case rel => exact ⟨f + 1, by omega, by go_num, hr.out.set hlt (by unfold m3; rw [if_pos E3.out])⟩
        case measure => simp only [intOf]; omega
      · have g3 : (fn l f == 3) = false := by simpa using e3
        go_wp2
        go_roundw
        case rel => exact ⟨f + 1, by omega, by go_num, hr.out.keep hlt (by unfold m3; rw [if_neg e3])⟩
        case measure => simp only [intOf]; omega
    · have e : f = n := by omega
      subst e
      go_wp2
      go_end0
      exact ⟨rfl, hr.out.fin⟩
end Go.Proofs.YtgojdlbidjnmmaaGreat
