import Derived.Test.YteefeciiaekdlaaScrTop
import Derived.Test.YteefeciiaekdlaaScrTopS
import Derived.Test.YteefeciiaekdlaaLawRunsA
import Derived.Test.YteefeciiaekdlaaLawKit
namespace Go.Proofs.Yteefeciiaekdlaa
open Go.ChangeShapes Go.WideShapes Go.ChangeAt Go.RowKit
set_option linter.unusedSimpArgs false

set_option maxHeartbeats 1000000 in
theorem implSR (v : Value) (l : List Int) (w : World) (hv : Arg w v l) (hl2 : l.length ≤ 1048576) :
    Calls Try.prog 17 #[v] w fun e w' => (∃ v' m, e = .returned v' ∧ OwnR w' w.heap.size v' m (runsR (scripts l))) ∧ Below w.heap.size w w' := by
  have hsl := scripts_len l
  go_enter Try.func17, Try.ntmps17
  go_wp2_with fail
  refine (implScripts v l _ hv hl2).mono ?_
  rintro e w2 ⟨⟨v2, rfl, o2⟩, b2⟩
  have a2 : Hid (Arg w2 v2 (scripts l)) := o2.arg
  clear o2
  go_wp2_with fail
  refine (implRuns _ (scripts l) _ a2.out (by omega)).mono ?_
  rintro e w3 ⟨⟨v3, m3, rfl, o3⟩, b3⟩
  go_wp2_with fail
  go_ret
  exact ⟨⟨_, m3, rfl, o3.mono b2.size⟩, bstep b2 b3⟩

set_option maxHeartbeats 1000000 in
theorem specSR (v : Value) (l : List Int) (w : World) (hv : Arg w v l) (hl2 : l.length ≤ 1048576) :
    Calls Try.prog 23 #[v] w fun e w' => (∃ v' m, e = .returned v' ∧ OwnR w' w.heap.size v' m (runsR (scripts l))) ∧ Below w.heap.size w w' := by
  have hsl := scripts_len l
  go_enter Try.func23, Try.ntmps23
  go_wp2_with fail
  refine (specScriptsOf v l _ hv hl2).mono ?_
  rintro e w2 ⟨⟨v2, rfl, o2⟩, b2⟩
  have a2 : Hid (Arg w2 v2 (scripts l)) := o2.arg
  clear o2
  go_wp2_with fail
  refine (specRuns _ (scripts l) _ a2.out (by omega)).mono ?_
  rintro e w3 ⟨⟨v3, m3, rfl, o3⟩, b3⟩
  go_wp2_with fail
  go_ret
  exact ⟨⟨_, m3, rfl, o3.mono b2.size⟩, bstep b2 b3⟩

set_option maxHeartbeats 4000000 in
theorem scriptRunsWalk (v : Value) (l : List Int) (w : World) (a : Option Addr) (cap : Nat) (hva : v = .slice a l.length cap) (hv : Arg w v l) :
    Calls Try.prog 7 #[v] w fun e w' => e = .returned (.bool true) ∧ Below w.heap.size w w' := by
  subst hva
  by_cases hbig : 1048576 < l.length
  · have hbig2 : (1048576 : Int) < (l.length : Int) := by omega
    go_enter Try.func7, Try.ntmps7
    go_wp2_with fail
    go_ret
    exact ⟨rfl, Below.refl _ _⟩
  · have hl : l.length ≤ 1048576 := by omega
    have hl4 : l.length ≤ 4194304 := by omega
    have hl2 : (l.length : Int) ≤ 1048576 := by omega
    have hcl := runsR_len (scripts l)
    go_enter Try.func7, Try.ntmps7
    go_wp2_with fail
    refine (toInt_any _ l _ hv hl).mono ?_
    rintro e w1 ⟨⟨g1, rfl, o1⟩, b1⟩
    go_wp2_with fail
    refine (specSR _ l _ o1.arg hl).mono ?_
    rintro e w2 ⟨⟨vw, nw0, rfl, ow⟩, b2⟩
    go_wp2_with fail
    have hB2 := bstep b1 b2
    refine (toInt_any _ l _ (hv.below hB2) hl).mono ?_
    rintro e w3 ⟨⟨gx, rfl, ox⟩, b3⟩
    go_wp2_with fail
    refine (implSR _ l _ ox.arg hl).mono ?_
    rintro e w4 ⟨⟨vg, m, rfl, og⟩, b4⟩
    have hm : m ≤ 1048576 := by have := og.len; omega
    go_wp2_with fail
    refine (eqRuns_yes _ _ m nw0 _ _ (runsR (scripts l)) _ og ((ow.below b3).below b4) hm).mono ?_
    rintro e w5 ⟨rfl, b5⟩
    go_wp2_with fail
    refine (toInt_any _ l _ (hv.below (bstep (bstep (bstep hB2 b3) b4) b5)) hl).mono ?_
    rintro e w6 ⟨⟨g6, rfl, o6⟩, b6⟩
    go_wp2_with fail
    refine (eqI_yes _ _ l _ (((ox.below b4).below b5).below b6).arg o6.arg (by omega)).mono ?_
    rintro e w7 ⟨rfl, b7⟩
    go_wp2_with fail
    have hgx := ox.lt gx rfl
    have nw : ∀ k, vw.ownBlock = some k → (Value.slice (some ⟨gx, 0, none⟩) l.length l.length).ownBlock ≠ some k := fun k hk e => by
      have := (ow.lt k hk).2; simp [Value.ownBlock] at e; omega
    have ng : ∀ k, vg.ownBlock = some k → (Value.slice (some ⟨gx, 0, none⟩) l.length l.length).ownBlock ≠ some k := fun k hk e => by
      have := (og.lt k hk).1; simp [Value.ownBlock] at e; omega
    have nwg : ∀ k, vw.ownBlock = some k → vg.ownBlock ≠ some k := fun k hk e => by
      have := (ow.lt k hk).2; have := (og.lt k e).1; have := b3.size; omega
    have hB7 := bstep (bstep (bstep (bstep (bstep hB2 b3) b4) b5) b6) b7
    have ox7 := (((ox.below b4).below b5).below b6).below b7
    have og7 := ((og.below b5).below b6).below b7
    have ow7 := ((((ow.below b3).below b4).below b5).below b6).below b7
    have s2 := hB2.size
    have s3 := (bstep hB2 b3).size
    refine (mark_any _ l _ 1 _ ox7 hl (by omega) (by omega)).mono ?_
    rintro e w8 ⟨rfl, ox8, gr8, sz8⟩
    have hB8 := grown_below hB7 gr8 ox7 s2 hB7.size
    have og8 := og7.beside gr8 ng
    have ow8 := ow7.beside gr8 nw
    clear sz8
    go_wp2_with fail
    refine (eqRuns_yes _ _ m nw0 _ _ (runsR (scripts l)) _ og8 ow8 hm).mono ?_
    rintro e w9 ⟨rfl, b9⟩
    go_wp2_with fail
    refine (markR _ m (runsR (scripts l)) _ 1 _ (og8.below b9) hm (by omega) (by omega)).mono ?_
    rintro e w10 ⟨rfl, og10, gr10⟩
    have ow10 := (ow8.below b9).beside gr10 nwg
    have hB9 := bstep hB8 b9
    have hB10 : Below w.heap.size w w10 := hB9.grown gr10 hB9.size (fun k hk => Nat.le_trans s3 ((og8.below b9).lt k hk).1)
    go_wp2_with fail
    refine (heldR _ m _ 1 _ og10 hm (by omega) (by omega)).mono ?_
    rintro e w11 ⟨rfl, rfl⟩
    go_wp2_with fail
    refine (toInt_any _ l _ (hv.below hB10) hl).mono ?_
    rintro e w12 ⟨⟨g12, rfl, o12⟩, b12⟩
    go_wp2_with fail
    refine (implSR _ l _ o12.arg hl).mono ?_
    rintro e w13 ⟨⟨vh, mh, rfl, oh⟩, b13⟩
    have hmh : mh ≤ 1048576 := by have := oh.len; omega
    go_wp2_with fail
    refine (eqRuns_yes _ _ mh nw0 _ _ (runsR (scripts l)) _ oh ((ow10.below b12).below b13) hmh).mono ?_
    rintro e w14 ⟨rfl, b14⟩
    go_wp2_with fail
    refine (heldR _ m _ 1 _ (((og10.below b12).below b13).below b14) hm (by omega) (by omega)).mono ?_
    rintro e w15 ⟨rfl, rfl⟩
    go_wp2_with fail
    go_ret
    exact ⟨rfl, bstep (bstep (bstep hB10 b12) b13) b14⟩
end Go.Proofs.Yteefeciiaekdlaa
