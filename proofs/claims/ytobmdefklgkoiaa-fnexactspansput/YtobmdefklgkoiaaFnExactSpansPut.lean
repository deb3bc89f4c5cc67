/- For every input the Go function laws.FnExactSpansPut returns true and leaves its arguments as they were; no condition. -/
import Derived.Test.YtobmdefklgkoiaaRows
import Derived.Test.YtobmdefklgkoiaaLawSpU
import Derived.Test.YtobmdefklgkoiaaQuad1
import Derived.Test.YtobmdefklgkoiaaQuads
import Derived.WalkKit
import Derived.ProofKit
import Derived.OpenShut
import Derived.Below
import Derived.ShutString
import Derived.ChangeOld
namespace Go.Proofs.Ytobmdefklgkoiaa.fnExactSpansPut
open Go.ChangeShapes Go.WideShapes Go.ChangeAt Go.RowKit
set_option linter.unusedVariables false

theorem own : ownKnob Try.prog.godebug = none := by kernel_rfl
theorem laidOut : laidOutB Try.prog = true := by kernel_rfl

theorem walk (a0 : Option Addr) (len0 cap0 : Nat) (l0 : List Int) (a1 : Int) (f2 t2 s2 m2 : Int) (w : World) (w0 : ArgL w a0 len0 cap0 l0) (w1 : (Lit.int .i64 a1).wf = true) (w2 : True) :
    Calls Try.prog 6 #[.slice a0 len0 cap0, .int .i64 a1, .agg #[.int .i64 f2, .int .i64 t2, .int .i64 s2, .int .i64 m2]] w fun e w' => e = .returned (.bool true) ∧ Below w.heap.size w w' :=
  spansPutWalk a0 len0 cap0 l0 a1 f2 t2 s2 m2 w w0

set_option maxRecDepth 100000 in
theorem lifted (os : Os) (started : os.Started) (H : Type) (enc : TypeId × Value → H) :
    ReturnsInHanded {} Try.checked os 6 .any (Rows.fnExactSpansPutSpec.pre6 enc Try.prog Try.f6 Rows.fnExactSpansPutRow.domain false) (Rows.fnExactSpansPutSpec.post enc Try.prog Try.f6 false true false false) := by
  refine returnsInHanded_of_change (C := Try.checked) own started (by kernel_rfl) Try.func6
    (ChangeSpec.witness6 (enc := enc) (C := Try.checked) false ⟨#[], #[.slice none 0 0, .int .i64 0, .agg #[.int .i64 0, .int .i64 0, .int .i64 0, .int .i64 0]], []⟩ 8 (by kernel_rfl) (by kernel_rfl) (by kernel_rfl) (by kernel_rfl)) ?_
  intro W base args ds gs before hval0 hW hcnd _
  have hval : ∀ (j : Nat) t v, Try.f6.params[j]? = some t → args[j]? = some v → Value.okWide Try.prog W .any base t v := hval0
  have hW' := hW
  obtain ⟨p, q, hA0, hV, rfl, hfz, hnd⟩ := hW
  have hA : DataW.TrodAll enc Try.prog W 0 (fun _ => true) true Try.f6.params.toList args.toList ds p := hA0
  rw [Try.params6] at hA hval
  obtain ⟨v0, vs0, d0, ds0, p0, q0, hargs, rfl, rfl, h0, r0⟩ := trodAll_cons hA
  obtain ⟨v1, vs1, d1, ds1, p1, q1, rfl, rfl, rfl, h1, r1⟩ := trodAll_cons r0
  obtain ⟨v2, vs2, d2, ds2, p2, q2, rfl, rfl, rfl, h2, r2⟩ := trodAll_cons r1
  obtain ⟨rfl, rfl, rfl⟩ := trodAll_nil r2
  obtain rfl : args = #[v0, v1, v2] := by cases args; simp_all
  obtain ⟨rfl, rfl⟩ := trodVars_none hV
  obtain ⟨a0, len0, cap0, rfl⟩ := okWide_slice Try.underlying42 (hval 0 42 v0 rfl rfl)
  have k0 := h0
  have lt0 : ∀ x ∈ p0, x.block < W.heap.size := by obtain ⟨m, hm⟩ := k0; exact DataW.trod_lt m _ _ _ hm
  obtain ⟨l0, w0⟩ : ∃ l, ArgL W a0 len0 cap0 l := by
    obtain ⟨fuel, hf⟩ := h0
    exact argL_of (open_quads (i := 3) Try.underlying42 Try.underlying43 (by kernel_rfl) rfl rfl rfl rfl rfl rfl rfl rfl Try.underlying3 (by kernel_rfl) hf)
  obtain ⟨a1, rfl, rfl, rfl, w1⟩ := open_int Try.underlying3 (hval 1 3 v1 rfl rfl) h1
  obtain ⟨cs2, rfl, hsz2⟩ := okWide_struct Try.underlying43 (hval 2 43 v2 rfl rfl)
  have k2 := h2
  have lt2 : ∀ x ∈ p2, x.block < W.heap.size := by obtain ⟨m, hm⟩ := k2; exact DataW.trod_lt m _ _ _ hm
  obtain ⟨f2, t2, s2, m2, ecs2⟩ : ∃ f t s m, cs2 = #[.int .i64 f, .int .i64 t, .int .i64 s, .int .i64 m] := by
    obtain ⟨fuel, hf⟩ := h2
    have c4 : cs2.size = 4 := hsz2.trans (by kernel_rfl)
    obtain ⟨f, t, s, m, e⟩ := open_quad (i := 3) Try.underlying43 rfl rfl rfl rfl rfl rfl rfl rfl Try.underlying3 (by kernel_rfl) (by simpa [Value.cells] using c4) hf
    refine ⟨f, t, s, m, ?_⟩
    simp only [Value.cells] at e
    apply Array.toList_inj.1
    exact e
  have w2 : True := trivial
  subst ecs2
  clear hA0 hval0
  refine (walk a0 len0 cap0 l0 a1 f2 t2 s2 m2 W w0 w1 w2).mono fun e W' ⟨he, bel⟩ => ?_
  subst he
  exact ⟨_, rfl, _, _, _, [], _, [], hW', trodAll_mk1 (shut_bool Try.underlying4 _), (trodAll_cons_mk (Below.trod laidOut (by kernel_rfl) (of_decide_eq_true (by kernel_rfl)) k0 bel lt0) (trodAll_cons_mk (shut_int Try.underlying3 w1) (trodAll_cons_mk (Below.trod laidOut (by kernel_rfl) (of_decide_eq_true (by kernel_rfl)) k2 bel lt2) trodAll_mk0))), rfl, bel.frame _, fun h => by cases h⟩

theorem over : Rows.fnExactSpansPutRow.holds Try.pinned (OpenSpec.ofChange Rows.fnExactSpansPutSpec) :=
  OpenClaim.holds_of_wide 6 Try.f6 rfl rfl rfl rfl rfl rfl rfl ⟨rfl, rfl, rfl, rfl, rfl⟩ rfl rfl rfl rfl rfl (by kernel_rfl) Try.func6 (by kernel_rfl)
    (of_decide_eq_true (by kernel_rfl)) (by unfold Func.isWrapper; first | (rw [if_pos (by decide +kernel)]; kernel_rfl) | (rw [if_neg (by decide +kernel)]; exact ⟨rfl, rfl⟩))
    (fun os started H enc _ => lifted os started H enc)

theorem proved : Rows.FnExactSpansPutSaid := over
#print axioms proved
end Go.Proofs.Ytobmdefklgkoiaa.fnExactSpansPut
