import PyProof.Rows.All
import Wide.All
import OpenK.AllK
import Wide.FinOn
import PyProof.InstEq
import HandS.ForMost
import HandS.IsInst
import HandS.OwnEq
import HandS.SlotsOwn
import HandS.NamedTupSort
import HandS.Exc
import HandS.TryMany
import HandS.ExcField
import HandS.WordsExc
import HandS.Lambda
import OpenK.KOwn
import HandS.Gcd
import HandS.ExcOwn
import HandS.Small
import PyProof.ExcBaseAll.ValueError
import KE.KCallOwn
import HandS.Deep
import KE.DatumOrd
import KE.LtData
import KE.KDictDisplayH
import HandS.Iter
import HandS.Conv
import HandS.SortInts
import HandS.More
import KE.KDictCopyH
import KE.GoesEnum
import HandS.Star
import HandS.TupMul
import HandS.Style
import HandS.ExcIs
import HandS.Sort
import KE.KExcIs
import KE.KDictWalk
import PyProof.NeKinds
import HandS.Zip
import KE.GoesZip
import KE.GoesMore
import HandS.SortKw
import PyProof.MinMaxWalk
import HandS.ExcInit
import HandS.Wide
import HandS.Walk
import HandS.NoneIn
import HandS.CallLocal
import HandS.Text
import HandS.Property
import HandS.StrMore
import HandS.TupAny
import HandS.Replace
import KE.IntTextLaws
import KE.KMathG
import HandS.Flow
import HandS.TupLen
import HandS.WideBits
import KE.RegKIsAll
import KE.RegKTryMore
import KE.KNestM
import HandS.MakeKw
import HandS.Defaults
import KE.KEqSeq
import Flt.RightSqrt
import HandS.EndTab
import KE.OsRunLaw
import PySem.Challenge.RW_areawalks_k71_whole_fewest_steps_told_in
set_option Elab.async false
namespace AW
open PySem PySem.W PySem.Calls PyProof.Rows HeadRun
/-- the head from one run, looked at in several theorems -/
theorem left_impG {p q : Program} {loose : List PySem.Str} {Xt : Shared → Bool} {K : Params → Frag} {as : List Addr} {ek : ∀ P, as = (K P).map (·.1)} {N : Nat}
    (r0 : ∀ w : World, (wholeF (fun p => stepQ (denQ tabQ) p w) fenceQ N p).map (fun x => (looksF p x.1.heap x.2.abs, (K w.params).map fun y => getT x.2 y.1)) = some (true, (K w.params).map fun x => some x.2))
    (r1 : ∀ w : World, (wholeF (fun p => stepQ (denQ tabQ) p w) fenceQ N p).map (fun x => ((seenQ q loose (importedModules p.main.body) Xt x.2.abs).2.1, (seenQ q loose (importedModules p.main.body) Xt x.2.abs).2.2.2.2.1, (seenQ q loose (importedModules p.main.body) Xt x.2.abs).2.2.2.2.2.2.1, (seenQ q loose (importedModules p.main.body) Xt x.2.abs).2.2.2.2.2.2.2.2)) = some (bltViewBooted, pinGoodD (drecsOf q), plainGoodD q loose, clsGoodW q loose))
    (r2 : ∀ w : World, (wholeF (fun p => stepQ (denQ tabQ) p w) fenceQ N p).map (fun x => ((seenQ q loose (importedModules p.main.body) Xt x.2.abs).2.2.1, (seenQ q loose (importedModules p.main.body) Xt x.2.abs).2.2.2.2.2.2.2.1)) = some (true, wideGood q))
    (r3 : ∀ w : World, (wholeF (fun p => stepQ (denQ tabQ) p w) fenceQ N p).map (fun x => (seenQ q loose (importedModules p.main.body) Xt x.2.abs).1) = some (expectedOf q))
    (r4 : ∀ w : World, (wholeF (fun p => stepQ (denQ tabQ) p w) fenceQ N p).map (fun x => (seenQ q loose (importedModules p.main.body) Xt x.2.abs).2.2.2.1) = some (true))
    (r5 : ∀ w : World, (wholeF (fun p => stepQ (denQ tabQ) p w) fenceQ N p).map (fun x => (seenQ q loose (importedModules p.main.body) Xt x.2.abs).2.2.2.2.2.1) = some (plainGoodE q (looseW q loose)))
    (_rz : ∀ _ : World, (0 : Nat) = 0) :
    LeftO p q loose Xt (Hook.obs (kHook K as ek)) (Hook.val (kHook K as ek)) N true :=
  left_impK fun w => by
    have h0 := r0 w
    have h1 := r1 w
    have h2 := r2 w
    have h3 := r3 w
    have h4 := r4 w
    have h5 := r5 w
    cases e : wholeF (fun p => stepQ (denQ tabQ) p w) fenceQ N p with
    | none => rw [e] at h0; cases h0
    | some x =>
      rw [e] at h0 h1 h2 h3 h4 h5
      have h0 := Option.some.inj h0
      have h1 := Option.some.inj h1
      have h2 := Option.some.inj h2
      have h3 := Option.some.inj h3
      have h4 := Option.some.inj h4
      have h5 := Option.some.inj h5
      have hS : seenQ q loose (importedModules p.main.body) Xt x.2.abs = openGood q loose :=
        Prod.ext h3 (Prod.ext (Prod.mk.inj h1).1 (Prod.ext (Prod.mk.inj h2).1 (Prod.ext h4 (Prod.ext (Prod.mk.inj (Prod.mk.inj h1).2).1 (Prod.ext h5 (Prod.ext (Prod.mk.inj (Prod.mk.inj (Prod.mk.inj h1).2).2).1 (Prod.ext (Prod.mk.inj h2).2 (Prod.mk.inj (Prod.mk.inj (Prod.mk.inj h1).2).2).2)))))))
      have hK : as.map (getT x.2) = (K w.params).map fun x => some x.2 := by
        rw [ek w.params, List.map_map]
        exact (Prod.mk.inj h0).2
      exact congrArg some (Prod.ext (Prod.mk.inj h0).1 (Prod.ext hS hK))
end AW
section
local macro_rules
  | `(tactic| refine $e:term) => do
    let s := e.raw
    let n := s[0].getId.eraseMacroScopes
    if s.isOfKind `Lean.Parser.Term.app && s[0].isIdent && (n == `holds_open || n == `PySem.W.holds_open) then
      `(tactic| exact False.elim (by assumption))
    else Lean.Macro.throwUnsupported
open PySem PySem.W PyProof.Rows in
set_option maxRecDepth 100000 in
set_option maxHeartbeats 0 in
theorem AW.pre (HNO : False) : PySem.Challenge.rw_areawalks_k71_whole_fewest_steps_told_in.Holds := by
  w_on; o_law; k_headL
end
section
open PySem PySem.W PySem.Calls PyProof.Rows HeadRun
set_option maxRecDepth 100000
set_option maxHeartbeats 0
theorem AW.hd0f : ∀ w : World, (wholeF (fun p => stepQ (denQ tabQ) p (PySem.World.withFollow w "special-get-raises" false)) fenceQ 11274 PySem.Challenge.rw_areawalks_k71_whole_fewest_steps_told_in.row.prog).map (fun x => (looksF PySem.Challenge.rw_areawalks_k71_whole_fewest_steps_told_in.row.prog x.1.heap x.2.abs, (AW.pre.heap_39 (PySem.World.withFollow w "special-get-raises" false).params).map fun y => getT x.2 y.1)) = some (true, (AW.pre.heap_39 (PySem.World.withFollow w "special-get-raises" false).params).map fun x => some x.2) := by
  intro w; kernel_rfl
theorem AW.hd0t : ∀ w : World, (wholeF (fun p => stepQ (denQ tabQ) p (PySem.World.withFollow w "special-get-raises" true)) fenceQ 11274 PySem.Challenge.rw_areawalks_k71_whole_fewest_steps_told_in.row.prog).map (fun x => (looksF PySem.Challenge.rw_areawalks_k71_whole_fewest_steps_told_in.row.prog x.1.heap x.2.abs, (AW.pre.heap_39 (PySem.World.withFollow w "special-get-raises" true).params).map fun y => getT x.2 y.1)) = some (true, (AW.pre.heap_39 (PySem.World.withFollow w "special-get-raises" true).params).map fun x => some x.2) := by
  intro w; kernel_rfl
theorem AW.hd0 : ∀ w : World, (wholeF (fun p => stepQ (denQ tabQ) p w) fenceQ 11274 PySem.Challenge.rw_areawalks_k71_whole_fewest_steps_told_in.row.prog).map (fun x => (looksF PySem.Challenge.rw_areawalks_k71_whole_fewest_steps_told_in.row.prog x.1.heap x.2.abs, (AW.pre.heap_39 w.params).map fun y => getT x.2 y.1)) = some (true, (AW.pre.heap_39 w.params).map fun x => some x.2) := by
  intro w
  have e := PySem.World.withFollow_self w "special-get-raises"
  cases h : w.params.followText "special-get-raises" with
  | false => rw [h] at e; exact Eq.subst (motive := fun w => ((wholeF (fun p => stepQ (denQ tabQ) p w) fenceQ 11274 PySem.Challenge.rw_areawalks_k71_whole_fewest_steps_told_in.row.prog).map (fun x => (looksF PySem.Challenge.rw_areawalks_k71_whole_fewest_steps_told_in.row.prog x.1.heap x.2.abs, (AW.pre.heap_39 w.params).map fun y => getT x.2 y.1)) = some (true, (AW.pre.heap_39 w.params).map fun x => some x.2))) e (AW.hd0f w)
  | true => rw [h] at e; exact Eq.subst (motive := fun w => ((wholeF (fun p => stepQ (denQ tabQ) p w) fenceQ 11274 PySem.Challenge.rw_areawalks_k71_whole_fewest_steps_told_in.row.prog).map (fun x => (looksF PySem.Challenge.rw_areawalks_k71_whole_fewest_steps_told_in.row.prog x.1.heap x.2.abs, (AW.pre.heap_39 w.params).map fun y => getT x.2 y.1)) = some (true, (AW.pre.heap_39 w.params).map fun x => some x.2))) e (AW.hd0t w)
theorem AW.hd1f : ∀ w : World, (wholeF (fun p => stepQ (denQ tabQ) p (PySem.World.withFollow w "special-get-raises" false)) fenceQ 11274 PySem.Challenge.rw_areawalks_k71_whole_fewest_steps_told_in.row.prog).map (fun x => ((seenQ AW.pre.view_39 [PySem.Str.ofString "DIRECTIONS", PySem.Str.ofString "Walk"] (importedModules PySem.Challenge.rw_areawalks_k71_whole_fewest_steps_told_in.row.prog.main.body) (fun s => xlAt AW.pre.view_39 [] s && recOk PySem.Challenge.rw_areawalks_k71_whole_fewest_steps_told_in.row.records s) x.2.abs).2.1, (seenQ AW.pre.view_39 [PySem.Str.ofString "DIRECTIONS", PySem.Str.ofString "Walk"] (importedModules PySem.Challenge.rw_areawalks_k71_whole_fewest_steps_told_in.row.prog.main.body) (fun s => xlAt AW.pre.view_39 [] s && recOk PySem.Challenge.rw_areawalks_k71_whole_fewest_steps_told_in.row.records s) x.2.abs).2.2.2.2.1, (seenQ AW.pre.view_39 [PySem.Str.ofString "DIRECTIONS", PySem.Str.ofString "Walk"] (importedModules PySem.Challenge.rw_areawalks_k71_whole_fewest_steps_told_in.row.prog.main.body) (fun s => xlAt AW.pre.view_39 [] s && recOk PySem.Challenge.rw_areawalks_k71_whole_fewest_steps_told_in.row.records s) x.2.abs).2.2.2.2.2.2.1, (seenQ AW.pre.view_39 [PySem.Str.ofString "DIRECTIONS", PySem.Str.ofString "Walk"] (importedModules PySem.Challenge.rw_areawalks_k71_whole_fewest_steps_told_in.row.prog.main.body) (fun s => xlAt AW.pre.view_39 [] s && recOk PySem.Challenge.rw_areawalks_k71_whole_fewest_steps_told_in.row.records s) x.2.abs).2.2.2.2.2.2.2.2)) = some (bltViewBooted, pinGoodD (drecsOf AW.pre.view_39), plainGoodD AW.pre.view_39 [PySem.Str.ofString "DIRECTIONS", PySem.Str.ofString "Walk"], clsGoodW AW.pre.view_39 [PySem.Str.ofString "DIRECTIONS", PySem.Str.ofString "Walk"]) := by
  intro w; kernel_rfl
theorem AW.hd1t : ∀ w : World, (wholeF (fun p => stepQ (denQ tabQ) p (PySem.World.withFollow w "special-get-raises" true)) fenceQ 11274 PySem.Challenge.rw_areawalks_k71_whole_fewest_steps_told_in.row.prog).map (fun x => ((seenQ AW.pre.view_39 [PySem.Str.ofString "DIRECTIONS", PySem.Str.ofString "Walk"] (importedModules PySem.Challenge.rw_areawalks_k71_whole_fewest_steps_told_in.row.prog.main.body) (fun s => xlAt AW.pre.view_39 [] s && recOk PySem.Challenge.rw_areawalks_k71_whole_fewest_steps_told_in.row.records s) x.2.abs).2.1, (seenQ AW.pre.view_39 [PySem.Str.ofString "DIRECTIONS", PySem.Str.ofString "Walk"] (importedModules PySem.Challenge.rw_areawalks_k71_whole_fewest_steps_told_in.row.prog.main.body) (fun s => xlAt AW.pre.view_39 [] s && recOk PySem.Challenge.rw_areawalks_k71_whole_fewest_steps_told_in.row.records s) x.2.abs).2.2.2.2.1, (seenQ AW.pre.view_39 [PySem.Str.ofString "DIRECTIONS", PySem.Str.ofString "Walk"] (importedModules PySem.Challenge.rw_areawalks_k71_whole_fewest_steps_told_in.row.prog.main.body) (fun s => xlAt AW.pre.view_39 [] s && recOk PySem.Challenge.rw_areawalks_k71_whole_fewest_steps_told_in.row.records s) x.2.abs).2.2.2.2.2.2.1, (seenQ AW.pre.view_39 [PySem.Str.ofString "DIRECTIONS", PySem.Str.ofString "Walk"] (importedModules PySem.Challenge.rw_areawalks_k71_whole_fewest_steps_told_in.row.prog.main.body) (fun s => xlAt AW.pre.view_39 [] s && recOk PySem.Challenge.rw_areawalks_k71_whole_fewest_steps_told_in.row.records s) x.2.abs).2.2.2.2.2.2.2.2)) = some (bltViewBooted, pinGoodD (drecsOf AW.pre.view_39), plainGoodD AW.pre.view_39 [PySem.Str.ofString "DIRECTIONS", PySem.Str.ofString "Walk"], clsGoodW AW.pre.view_39 [PySem.Str.ofString "DIRECTIONS", PySem.Str.ofString "Walk"]) := by
  intro w; kernel_rfl
theorem AW.hd1 : ∀ w : World, (wholeF (fun p => stepQ (denQ tabQ) p w) fenceQ 11274 PySem.Challenge.rw_areawalks_k71_whole_fewest_steps_told_in.row.prog).map (fun x => ((seenQ AW.pre.view_39 [PySem.Str.ofString "DIRECTIONS", PySem.Str.ofString "Walk"] (importedModules PySem.Challenge.rw_areawalks_k71_whole_fewest_steps_told_in.row.prog.main.body) (fun s => xlAt AW.pre.view_39 [] s && recOk PySem.Challenge.rw_areawalks_k71_whole_fewest_steps_told_in.row.records s) x.2.abs).2.1, (seenQ AW.pre.view_39 [PySem.Str.ofString "DIRECTIONS", PySem.Str.ofString "Walk"] (importedModules PySem.Challenge.rw_areawalks_k71_whole_fewest_steps_told_in.row.prog.main.body) (fun s => xlAt AW.pre.view_39 [] s && recOk PySem.Challenge.rw_areawalks_k71_whole_fewest_steps_told_in.row.records s) x.2.abs).2.2.2.2.1, (seenQ AW.pre.view_39 [PySem.Str.ofString "DIRECTIONS", PySem.Str.ofString "Walk"] (importedModules PySem.Challenge.rw_areawalks_k71_whole_fewest_steps_told_in.row.prog.main.body) (fun s => xlAt AW.pre.view_39 [] s && recOk PySem.Challenge.rw_areawalks_k71_whole_fewest_steps_told_in.row.records s) x.2.abs).2.2.2.2.2.2.1, (seenQ AW.pre.view_39 [PySem.Str.ofString "DIRECTIONS", PySem.Str.ofString "Walk"] (importedModules PySem.Challenge.rw_areawalks_k71_whole_fewest_steps_told_in.row.prog.main.body) (fun s => xlAt AW.pre.view_39 [] s && recOk PySem.Challenge.rw_areawalks_k71_whole_fewest_steps_told_in.row.records s) x.2.abs).2.2.2.2.2.2.2.2)) = some (bltViewBooted, pinGoodD (drecsOf AW.pre.view_39), plainGoodD AW.pre.view_39 [PySem.Str.ofString "DIRECTIONS", PySem.Str.ofString "Walk"], clsGoodW AW.pre.view_39 [PySem.Str.ofString "DIRECTIONS", PySem.Str.ofString "Walk"]) := by
  intro w
  have e := PySem.World.withFollow_self w "special-get-raises"
  cases h : w.params.followText "special-get-raises" with
  | false => rw [h] at e; exact Eq.subst (motive := fun w => ((wholeF (fun p => stepQ (denQ tabQ) p w) fenceQ 11274 PySem.Challenge.rw_areawalks_k71_whole_fewest_steps_told_in.row.prog).map (fun x => ((seenQ AW.pre.view_39 [PySem.Str.ofString "DIRECTIONS", PySem.Str.ofString "Walk"] (importedModules PySem.Challenge.rw_areawalks_k71_whole_fewest_steps_told_in.row.prog.main.body) (fun s => xlAt AW.pre.view_39 [] s && recOk PySem.Challenge.rw_areawalks_k71_whole_fewest_steps_told_in.row.records s) x.2.abs).2.1, (seenQ AW.pre.view_39 [PySem.Str.ofString "DIRECTIONS", PySem.Str.ofString "Walk"] (importedModules PySem.Challenge.rw_areawalks_k71_whole_fewest_steps_told_in.row.prog.main.body) (fun s => xlAt AW.pre.view_39 [] s && recOk PySem.Challenge.rw_areawalks_k71_whole_fewest_steps_told_in.row.records s) x.2.abs).2.2.2.2.1, (seenQ AW.pre.view_39 [PySem.Str.ofString "DIRECTIONS", PySem.Str.ofString "Walk"] (importedModules PySem.Challenge.rw_areawalks_k71_whole_fewest_steps_told_in.row.prog.main.body) (fun s => xlAt AW.pre.view_39 [] s && recOk PySem.Challenge.rw_areawalks_k71_whole_fewest_steps_told_in.row.records s) x.2.abs).2.2.2.2.2.2.1, (seenQ AW.pre.view_39 [PySem.Str.ofString "DIRECTIONS", PySem.Str.ofString "Walk"] (importedModules PySem.Challenge.rw_areawalks_k71_whole_fewest_steps_told_in.row.prog.main.body) (fun s => xlAt AW.pre.view_39 [] s && recOk PySem.Challenge.rw_areawalks_k71_whole_fewest_steps_told_in.row.records s) x.2.abs).2.2.2.2.2.2.2.2)) = some (bltViewBooted, pinGoodD (drecsOf AW.pre.view_39), plainGoodD AW.pre.view_39 [PySem.Str.ofString "DIRECTIONS", PySem.Str.ofString "Walk"], clsGoodW AW.pre.view_39 [PySem.Str.ofString "DIRECTIONS", PySem.Str.ofString "Walk"]))) e (AW.hd1f w)
  | true => rw [h] at e; exact Eq.subst (motive := fun w => ((wholeF (fun p => stepQ (denQ tabQ) p w) fenceQ 11274 PySem.Challenge.rw_areawalks_k71_whole_fewest_steps_told_in.row.prog).map (fun x => ((seenQ AW.pre.view_39 [PySem.Str.ofString "DIRECTIONS", PySem.Str.ofString "Walk"] (importedModules PySem.Challenge.rw_areawalks_k71_whole_fewest_steps_told_in.row.prog.main.body) (fun s => xlAt AW.pre.view_39 [] s && recOk PySem.Challenge.rw_areawalks_k71_whole_fewest_steps_told_in.row.records s) x.2.abs).2.1, (seenQ AW.pre.view_39 [PySem.Str.ofString "DIRECTIONS", PySem.Str.ofString "Walk"] (importedModules PySem.Challenge.rw_areawalks_k71_whole_fewest_steps_told_in.row.prog.main.body) (fun s => xlAt AW.pre.view_39 [] s && recOk PySem.Challenge.rw_areawalks_k71_whole_fewest_steps_told_in.row.records s) x.2.abs).2.2.2.2.1, (seenQ AW.pre.view_39 [PySem.Str.ofString "DIRECTIONS", PySem.Str.ofString "Walk"] (importedModules PySem.Challenge.rw_areawalks_k71_whole_fewest_steps_told_in.row.prog.main.body) (fun s => xlAt AW.pre.view_39 [] s && recOk PySem.Challenge.rw_areawalks_k71_whole_fewest_steps_told_in.row.records s) x.2.abs).2.2.2.2.2.2.1, (seenQ AW.pre.view_39 [PySem.Str.ofString "DIRECTIONS", PySem.Str.ofString "Walk"] (importedModules PySem.Challenge.rw_areawalks_k71_whole_fewest_steps_told_in.row.prog.main.body) (fun s => xlAt AW.pre.view_39 [] s && recOk PySem.Challenge.rw_areawalks_k71_whole_fewest_steps_told_in.row.records s) x.2.abs).2.2.2.2.2.2.2.2)) = some (bltViewBooted, pinGoodD (drecsOf AW.pre.view_39), plainGoodD AW.pre.view_39 [PySem.Str.ofString "DIRECTIONS", PySem.Str.ofString "Walk"], clsGoodW AW.pre.view_39 [PySem.Str.ofString "DIRECTIONS", PySem.Str.ofString "Walk"]))) e (AW.hd1t w)
theorem AW.hd2f : ∀ w : World, (wholeF (fun p => stepQ (denQ tabQ) p (PySem.World.withFollow w "special-get-raises" false)) fenceQ 11274 PySem.Challenge.rw_areawalks_k71_whole_fewest_steps_told_in.row.prog).map (fun x => ((seenQ AW.pre.view_39 [PySem.Str.ofString "DIRECTIONS", PySem.Str.ofString "Walk"] (importedModules PySem.Challenge.rw_areawalks_k71_whole_fewest_steps_told_in.row.prog.main.body) (fun s => xlAt AW.pre.view_39 [] s && recOk PySem.Challenge.rw_areawalks_k71_whole_fewest_steps_told_in.row.records s) x.2.abs).2.2.1, (seenQ AW.pre.view_39 [PySem.Str.ofString "DIRECTIONS", PySem.Str.ofString "Walk"] (importedModules PySem.Challenge.rw_areawalks_k71_whole_fewest_steps_told_in.row.prog.main.body) (fun s => xlAt AW.pre.view_39 [] s && recOk PySem.Challenge.rw_areawalks_k71_whole_fewest_steps_told_in.row.records s) x.2.abs).2.2.2.2.2.2.2.1)) = some (true, wideGood AW.pre.view_39) := by
  intro w; kernel_rfl
theorem AW.hd2t : ∀ w : World, (wholeF (fun p => stepQ (denQ tabQ) p (PySem.World.withFollow w "special-get-raises" true)) fenceQ 11274 PySem.Challenge.rw_areawalks_k71_whole_fewest_steps_told_in.row.prog).map (fun x => ((seenQ AW.pre.view_39 [PySem.Str.ofString "DIRECTIONS", PySem.Str.ofString "Walk"] (importedModules PySem.Challenge.rw_areawalks_k71_whole_fewest_steps_told_in.row.prog.main.body) (fun s => xlAt AW.pre.view_39 [] s && recOk PySem.Challenge.rw_areawalks_k71_whole_fewest_steps_told_in.row.records s) x.2.abs).2.2.1, (seenQ AW.pre.view_39 [PySem.Str.ofString "DIRECTIONS", PySem.Str.ofString "Walk"] (importedModules PySem.Challenge.rw_areawalks_k71_whole_fewest_steps_told_in.row.prog.main.body) (fun s => xlAt AW.pre.view_39 [] s && recOk PySem.Challenge.rw_areawalks_k71_whole_fewest_steps_told_in.row.records s) x.2.abs).2.2.2.2.2.2.2.1)) = some (true, wideGood AW.pre.view_39) := by
  intro w; kernel_rfl
theorem AW.hd2 : ∀ w : World, (wholeF (fun p => stepQ (denQ tabQ) p w) fenceQ 11274 PySem.Challenge.rw_areawalks_k71_whole_fewest_steps_told_in.row.prog).map (fun x => ((seenQ AW.pre.view_39 [PySem.Str.ofString "DIRECTIONS", PySem.Str.ofString "Walk"] (importedModules PySem.Challenge.rw_areawalks_k71_whole_fewest_steps_told_in.row.prog.main.body) (fun s => xlAt AW.pre.view_39 [] s && recOk PySem.Challenge.rw_areawalks_k71_whole_fewest_steps_told_in.row.records s) x.2.abs).2.2.1, (seenQ AW.pre.view_39 [PySem.Str.ofString "DIRECTIONS", PySem.Str.ofString "Walk"] (importedModules PySem.Challenge.rw_areawalks_k71_whole_fewest_steps_told_in.row.prog.main.body) (fun s => xlAt AW.pre.view_39 [] s && recOk PySem.Challenge.rw_areawalks_k71_whole_fewest_steps_told_in.row.records s) x.2.abs).2.2.2.2.2.2.2.1)) = some (true, wideGood AW.pre.view_39) := by
  intro w
  have e := PySem.World.withFollow_self w "special-get-raises"
  cases h : w.params.followText "special-get-raises" with
  | false => rw [h] at e; exact Eq.subst (motive := fun w => ((wholeF (fun p => stepQ (denQ tabQ) p w) fenceQ 11274 PySem.Challenge.rw_areawalks_k71_whole_fewest_steps_told_in.row.prog).map (fun x => ((seenQ AW.pre.view_39 [PySem.Str.ofString "DIRECTIONS", PySem.Str.ofString "Walk"] (importedModules PySem.Challenge.rw_areawalks_k71_whole_fewest_steps_told_in.row.prog.main.body) (fun s => xlAt AW.pre.view_39 [] s && recOk PySem.Challenge.rw_areawalks_k71_whole_fewest_steps_told_in.row.records s) x.2.abs).2.2.1, (seenQ AW.pre.view_39 [PySem.Str.ofString "DIRECTIONS", PySem.Str.ofString "Walk"] (importedModules PySem.Challenge.rw_areawalks_k71_whole_fewest_steps_told_in.row.prog.main.body) (fun s => xlAt AW.pre.view_39 [] s && recOk PySem.Challenge.rw_areawalks_k71_whole_fewest_steps_told_in.row.records s) x.2.abs).2.2.2.2.2.2.2.1)) = some (true, wideGood AW.pre.view_39))) e (AW.hd2f w)
  | true => rw [h] at e; exact Eq.subst (motive := fun w => ((wholeF (fun p => stepQ (denQ tabQ) p w) fenceQ 11274 PySem.Challenge.rw_areawalks_k71_whole_fewest_steps_told_in.row.prog).map (fun x => ((seenQ AW.pre.view_39 [PySem.Str.ofString "DIRECTIONS", PySem.Str.ofString "Walk"] (importedModules PySem.Challenge.rw_areawalks_k71_whole_fewest_steps_told_in.row.prog.main.body) (fun s => xlAt AW.pre.view_39 [] s && recOk PySem.Challenge.rw_areawalks_k71_whole_fewest_steps_told_in.row.records s) x.2.abs).2.2.1, (seenQ AW.pre.view_39 [PySem.Str.ofString "DIRECTIONS", PySem.Str.ofString "Walk"] (importedModules PySem.Challenge.rw_areawalks_k71_whole_fewest_steps_told_in.row.prog.main.body) (fun s => xlAt AW.pre.view_39 [] s && recOk PySem.Challenge.rw_areawalks_k71_whole_fewest_steps_told_in.row.records s) x.2.abs).2.2.2.2.2.2.2.1)) = some (true, wideGood AW.pre.view_39))) e (AW.hd2t w)
theorem AW.hd3f : ∀ w : World, (wholeF (fun p => stepQ (denQ tabQ) p (PySem.World.withFollow w "special-get-raises" false)) fenceQ 11274 PySem.Challenge.rw_areawalks_k71_whole_fewest_steps_told_in.row.prog).map (fun x => (seenQ AW.pre.view_39 [PySem.Str.ofString "DIRECTIONS", PySem.Str.ofString "Walk"] (importedModules PySem.Challenge.rw_areawalks_k71_whole_fewest_steps_told_in.row.prog.main.body) (fun s => xlAt AW.pre.view_39 [] s && recOk PySem.Challenge.rw_areawalks_k71_whole_fewest_steps_told_in.row.records s) x.2.abs).1) = some (expectedOf AW.pre.view_39) := by
  intro w; kernel_rfl
theorem AW.hd3t : ∀ w : World, (wholeF (fun p => stepQ (denQ tabQ) p (PySem.World.withFollow w "special-get-raises" true)) fenceQ 11274 PySem.Challenge.rw_areawalks_k71_whole_fewest_steps_told_in.row.prog).map (fun x => (seenQ AW.pre.view_39 [PySem.Str.ofString "DIRECTIONS", PySem.Str.ofString "Walk"] (importedModules PySem.Challenge.rw_areawalks_k71_whole_fewest_steps_told_in.row.prog.main.body) (fun s => xlAt AW.pre.view_39 [] s && recOk PySem.Challenge.rw_areawalks_k71_whole_fewest_steps_told_in.row.records s) x.2.abs).1) = some (expectedOf AW.pre.view_39) := by
  intro w; kernel_rfl
theorem AW.hd3 : ∀ w : World, (wholeF (fun p => stepQ (denQ tabQ) p w) fenceQ 11274 PySem.Challenge.rw_areawalks_k71_whole_fewest_steps_told_in.row.prog).map (fun x => (seenQ AW.pre.view_39 [PySem.Str.ofString "DIRECTIONS", PySem.Str.ofString "Walk"] (importedModules PySem.Challenge.rw_areawalks_k71_whole_fewest_steps_told_in.row.prog.main.body) (fun s => xlAt AW.pre.view_39 [] s && recOk PySem.Challenge.rw_areawalks_k71_whole_fewest_steps_told_in.row.records s) x.2.abs).1) = some (expectedOf AW.pre.view_39) := by
  intro w
  have e := PySem.World.withFollow_self w "special-get-raises"
  cases h : w.params.followText "special-get-raises" with
  | false => rw [h] at e; exact Eq.subst (motive := fun w => ((wholeF (fun p => stepQ (denQ tabQ) p w) fenceQ 11274 PySem.Challenge.rw_areawalks_k71_whole_fewest_steps_told_in.row.prog).map (fun x => (seenQ AW.pre.view_39 [PySem.Str.ofString "DIRECTIONS", PySem.Str.ofString "Walk"] (importedModules PySem.Challenge.rw_areawalks_k71_whole_fewest_steps_told_in.row.prog.main.body) (fun s => xlAt AW.pre.view_39 [] s && recOk PySem.Challenge.rw_areawalks_k71_whole_fewest_steps_told_in.row.records s) x.2.abs).1) = some (expectedOf AW.pre.view_39))) e (AW.hd3f w)
  | true => rw [h] at e; exact Eq.subst (motive := fun w => ((wholeF (fun p => stepQ (denQ tabQ) p w) fenceQ 11274 PySem.Challenge.rw_areawalks_k71_whole_fewest_steps_told_in.row.prog).map (fun x => (seenQ AW.pre.view_39 [PySem.Str.ofString "DIRECTIONS", PySem.Str.ofString "Walk"] (importedModules PySem.Challenge.rw_areawalks_k71_whole_fewest_steps_told_in.row.prog.main.body) (fun s => xlAt AW.pre.view_39 [] s && recOk PySem.Challenge.rw_areawalks_k71_whole_fewest_steps_told_in.row.records s) x.2.abs).1) = some (expectedOf AW.pre.view_39))) e (AW.hd3t w)
theorem AW.hd4f : ∀ w : World, (wholeF (fun p => stepQ (denQ tabQ) p (PySem.World.withFollow w "special-get-raises" false)) fenceQ 11274 PySem.Challenge.rw_areawalks_k71_whole_fewest_steps_told_in.row.prog).map (fun x => (seenQ AW.pre.view_39 [PySem.Str.ofString "DIRECTIONS", PySem.Str.ofString "Walk"] (importedModules PySem.Challenge.rw_areawalks_k71_whole_fewest_steps_told_in.row.prog.main.body) (fun s => xlAt AW.pre.view_39 [] s && recOk PySem.Challenge.rw_areawalks_k71_whole_fewest_steps_told_in.row.records s) x.2.abs).2.2.2.1) = some (true) := by
  intro w; kernel_rfl
theorem AW.hd4t : ∀ w : World, (wholeF (fun p => stepQ (denQ tabQ) p (PySem.World.withFollow w "special-get-raises" true)) fenceQ 11274 PySem.Challenge.rw_areawalks_k71_whole_fewest_steps_told_in.row.prog).map (fun x => (seenQ AW.pre.view_39 [PySem.Str.ofString "DIRECTIONS", PySem.Str.ofString "Walk"] (importedModules PySem.Challenge.rw_areawalks_k71_whole_fewest_steps_told_in.row.prog.main.body) (fun s => xlAt AW.pre.view_39 [] s && recOk PySem.Challenge.rw_areawalks_k71_whole_fewest_steps_told_in.row.records s) x.2.abs).2.2.2.1) = some (true) := by
  intro w; kernel_rfl
theorem AW.hd4 : ∀ w : World, (wholeF (fun p => stepQ (denQ tabQ) p w) fenceQ 11274 PySem.Challenge.rw_areawalks_k71_whole_fewest_steps_told_in.row.prog).map (fun x => (seenQ AW.pre.view_39 [PySem.Str.ofString "DIRECTIONS", PySem.Str.ofString "Walk"] (importedModules PySem.Challenge.rw_areawalks_k71_whole_fewest_steps_told_in.row.prog.main.body) (fun s => xlAt AW.pre.view_39 [] s && recOk PySem.Challenge.rw_areawalks_k71_whole_fewest_steps_told_in.row.records s) x.2.abs).2.2.2.1) = some (true) := by
  intro w
  have e := PySem.World.withFollow_self w "special-get-raises"
  cases h : w.params.followText "special-get-raises" with
  | false => rw [h] at e; exact Eq.subst (motive := fun w => ((wholeF (fun p => stepQ (denQ tabQ) p w) fenceQ 11274 PySem.Challenge.rw_areawalks_k71_whole_fewest_steps_told_in.row.prog).map (fun x => (seenQ AW.pre.view_39 [PySem.Str.ofString "DIRECTIONS", PySem.Str.ofString "Walk"] (importedModules PySem.Challenge.rw_areawalks_k71_whole_fewest_steps_told_in.row.prog.main.body) (fun s => xlAt AW.pre.view_39 [] s && recOk PySem.Challenge.rw_areawalks_k71_whole_fewest_steps_told_in.row.records s) x.2.abs).2.2.2.1) = some (true))) e (AW.hd4f w)
  | true => rw [h] at e; exact Eq.subst (motive := fun w => ((wholeF (fun p => stepQ (denQ tabQ) p w) fenceQ 11274 PySem.Challenge.rw_areawalks_k71_whole_fewest_steps_told_in.row.prog).map (fun x => (seenQ AW.pre.view_39 [PySem.Str.ofString "DIRECTIONS", PySem.Str.ofString "Walk"] (importedModules PySem.Challenge.rw_areawalks_k71_whole_fewest_steps_told_in.row.prog.main.body) (fun s => xlAt AW.pre.view_39 [] s && recOk PySem.Challenge.rw_areawalks_k71_whole_fewest_steps_told_in.row.records s) x.2.abs).2.2.2.1) = some (true))) e (AW.hd4t w)
theorem AW.hd5f : ∀ w : World, (wholeF (fun p => stepQ (denQ tabQ) p (PySem.World.withFollow w "special-get-raises" false)) fenceQ 11274 PySem.Challenge.rw_areawalks_k71_whole_fewest_steps_told_in.row.prog).map (fun x => (seenQ AW.pre.view_39 [PySem.Str.ofString "DIRECTIONS", PySem.Str.ofString "Walk"] (importedModules PySem.Challenge.rw_areawalks_k71_whole_fewest_steps_told_in.row.prog.main.body) (fun s => xlAt AW.pre.view_39 [] s && recOk PySem.Challenge.rw_areawalks_k71_whole_fewest_steps_told_in.row.records s) x.2.abs).2.2.2.2.2.1) = some (plainGoodE AW.pre.view_39 (looseW AW.pre.view_39 [PySem.Str.ofString "DIRECTIONS", PySem.Str.ofString "Walk"])) := by
  intro w; kernel_rfl
theorem AW.hd5t : ∀ w : World, (wholeF (fun p => stepQ (denQ tabQ) p (PySem.World.withFollow w "special-get-raises" true)) fenceQ 11274 PySem.Challenge.rw_areawalks_k71_whole_fewest_steps_told_in.row.prog).map (fun x => (seenQ AW.pre.view_39 [PySem.Str.ofString "DIRECTIONS", PySem.Str.ofString "Walk"] (importedModules PySem.Challenge.rw_areawalks_k71_whole_fewest_steps_told_in.row.prog.main.body) (fun s => xlAt AW.pre.view_39 [] s && recOk PySem.Challenge.rw_areawalks_k71_whole_fewest_steps_told_in.row.records s) x.2.abs).2.2.2.2.2.1) = some (plainGoodE AW.pre.view_39 (looseW AW.pre.view_39 [PySem.Str.ofString "DIRECTIONS", PySem.Str.ofString "Walk"])) := by
  intro w; kernel_rfl
theorem AW.hd5 : ∀ w : World, (wholeF (fun p => stepQ (denQ tabQ) p w) fenceQ 11274 PySem.Challenge.rw_areawalks_k71_whole_fewest_steps_told_in.row.prog).map (fun x => (seenQ AW.pre.view_39 [PySem.Str.ofString "DIRECTIONS", PySem.Str.ofString "Walk"] (importedModules PySem.Challenge.rw_areawalks_k71_whole_fewest_steps_told_in.row.prog.main.body) (fun s => xlAt AW.pre.view_39 [] s && recOk PySem.Challenge.rw_areawalks_k71_whole_fewest_steps_told_in.row.records s) x.2.abs).2.2.2.2.2.1) = some (plainGoodE AW.pre.view_39 (looseW AW.pre.view_39 [PySem.Str.ofString "DIRECTIONS", PySem.Str.ofString "Walk"])) := by
  intro w
  have e := PySem.World.withFollow_self w "special-get-raises"
  cases h : w.params.followText "special-get-raises" with
  | false => rw [h] at e; exact Eq.subst (motive := fun w => ((wholeF (fun p => stepQ (denQ tabQ) p w) fenceQ 11274 PySem.Challenge.rw_areawalks_k71_whole_fewest_steps_told_in.row.prog).map (fun x => (seenQ AW.pre.view_39 [PySem.Str.ofString "DIRECTIONS", PySem.Str.ofString "Walk"] (importedModules PySem.Challenge.rw_areawalks_k71_whole_fewest_steps_told_in.row.prog.main.body) (fun s => xlAt AW.pre.view_39 [] s && recOk PySem.Challenge.rw_areawalks_k71_whole_fewest_steps_told_in.row.records s) x.2.abs).2.2.2.2.2.1) = some (plainGoodE AW.pre.view_39 (looseW AW.pre.view_39 [PySem.Str.ofString "DIRECTIONS", PySem.Str.ofString "Walk"])))) e (AW.hd5f w)
  | true => rw [h] at e; exact Eq.subst (motive := fun w => ((wholeF (fun p => stepQ (denQ tabQ) p w) fenceQ 11274 PySem.Challenge.rw_areawalks_k71_whole_fewest_steps_told_in.row.prog).map (fun x => (seenQ AW.pre.view_39 [PySem.Str.ofString "DIRECTIONS", PySem.Str.ofString "Walk"] (importedModules PySem.Challenge.rw_areawalks_k71_whole_fewest_steps_told_in.row.prog.main.body) (fun s => xlAt AW.pre.view_39 [] s && recOk PySem.Challenge.rw_areawalks_k71_whole_fewest_steps_told_in.row.records s) x.2.abs).2.2.2.2.2.1) = some (plainGoodE AW.pre.view_39 (looseW AW.pre.view_39 [PySem.Str.ofString "DIRECTIONS", PySem.Str.ofString "Walk"])))) e (AW.hd5t w)
end
set_option linter.all false
set_option maxRecDepth 100000
set_option maxHeartbeats 4000000
namespace AWR
open PySem PySem.W PyProof.Rows Builtin
section
variable {prog : Program} {w : World} {A : Around} {E : Value → Shared → Prop} {s : Shared} {K : Frag} {x C f : Addr} {ox : Obj} {oD : Option Obj} {b tb : Value}
/-- x != b by object.__ne__, the own __eq__ behind it -/
theorem one_ne {Q : Value → Shared → Prop} (hu : A.units + 1 < cLine) (X : K.In s.heap) (iv : InstAt s.heap x ox C oD)
    (hne : findIn K (.ref C) "__ne__" = some (some (.builtin "object.__ne__"))) (hm : mroIn K C (.type "object") = some true)
    (hs : findIn K (.ref C) "__eq__" = some (some (.ref f))) (hf : isFn K (.ref f) = true)
    (h : wpAny (model prog w) A.in1 (call (.ref f) [.ref x, b]) (fun v s' => ∃ r, v = .bool r ∧ Q (.bool (!r)) s') E s) :
    wpAny (model prog w) A (tryCompare (.ref x) "__ne__" b) (fun r s' => ∃ v, r = some v ∧ Q v s') E s := by
  simp only [tryCompare]
  have lookN : Looks (model prog w) s.heap (specialOf (.ref x) "__ne__") (some (.builtin "object.__ne__")) := fun A Q E s' k q => wpAny_bind ((iv.type.keeps k).here ((looks_findIn (X.keeps k) hne).here q))
  have L2 : Looks (model prog w) s.heap (isInstance (.ref x) (.type "object")) true := iv.type.andThen (looks_mroIn X hm)
  refine wpAny_bind (NtL.csib lookN (by kernel_rfl) ?_)
  refine wpAny_call (codeAny_call_builtin (by decide +kernel) F.cmpEntry_ne (check_slot F.cmpKind_ne F.cmpSplit_ne L2 (F.cmpArgs_ne _ _) ?_))
  unfold Builtin.«object.__ne__»
  repeat (first
    | with_reducible refine wpAny_cRoomFor hu ?_
    | (refine wpAny_bind (m := callSpecialIfBound? (.ref x) (Str.ofString "__eq__") [b]) (ifBound_K X iv hs hf (wpAny_mono h (fun r s' hr => by
          obtain ⟨q, rfl, kq⟩ := hr
          repeat (first | exact ⟨_, rfl, wpAny_pure ⟨_, rfl, kq⟩⟩ | exact wpAny_pure ⟨_, rfl, kq⟩ | exact wpAny_truthy_bool ⟨_, rfl, kq⟩ | (refine wpAny_bind (m := truthy (.bool _)) (wpAny_truthy_bool ?_)) | wp_step)) fun _ _ e => e)))
    | wp_step)
theorem ne_K {Q : Value → Shared → Prop} (hu : A.units + 1 < cLine) (X : K.In s.heap) (iv : InstAt s.heap x ox C oD) (hb : Looks (model prog w) s.heap (typeOf b) tb) (hn : notFirst K C tb = true)
    (hne : findIn K (.ref C) "__ne__" = some (some (.builtin "object.__ne__"))) (hm : mroIn K C (.type "object") = some true)
    (hs : findIn K (.ref C) "__eq__" = some (some (.ref f))) (hf : isFn K (.ref f) = true)
    (h : wpAny (model prog w) A.in1 (call (.ref f) [.ref x, b]) (fun v s' => ∃ r, v = .bool r ∧ Q (.bool (!r)) s') E s) : wpAny (model prog w) A (richCompare .NotEq (.ref x) b) Q E s := by
  have cmp1 := one_ne (b := b) (Q := Q) hu X iv hne hm hs hf h
  unfold richCompare
  simp only [oneThing_ref]
  refine wpAny_holding (wpAny_bind (wpAny_cRoomFor (Nat.lt_of_succ_lt hu) ?_))
  refine wpAny_bind (iv.type.here (wpAny_bind (hb.here ?_)))
  split
  · rename_i q
    have e : subIn K tb (.ref C) = some false := by
      rcases Bool.or_eq_true_iff.mp hn with e | e
      · rw [beq_iff_eq.mp e] at q; simp at q
      · exact beq_iff_eq.mp e
    refine wpAny_bind ((looks_subIn X e).here ?_)
    simp only [Bool.false_eq_true, if_false]
    refine wpAny_bind (wpAny_mono cmp1 (fun r s' z => ?_) fun _ _ e => e)
    obtain ⟨v, rfl, kq⟩ := z
    exact wpAny_pure kq
  · refine wpAny_bind (wpAny_pure ?_)
    simp only [Bool.false_eq_true, if_false]
    refine wpAny_bind (wpAny_mono cmp1 (fun r s' z => ?_) fun _ _ e => e)
    obtain ⟨v, rfl, kq⟩ := z
    exact wpAny_pure kq
end
end AWR

set_option linter.all false
set_option maxRecDepth 100000
set_option maxHeartbeats 4000000
namespace AWR
open PySem PySem.W PyProof.Rows Builtin
section
variable {prog : Program} {w : World} {A : Around} {E : Value → Shared → Prop} {s : Shared} {K : Frag} {x C f : Addr} {ox : Obj} {od : Option Obj} {b tb : Value}
theorem tryM {nm : Str} {Q : Option Value → Shared → Prop} (X : K.In s.heap) (I : InstAt s.heap x ox C od) (hs : findIn K (.ref C) nm = some (some (.ref f))) (hf : isFn K (.ref f) = true)
    (h : wpAny (model prog w) A (call (.ref f) [.ref x, b]) (W.CmpBack fun v => Q (some v)) E s) : wpAny (model prog w) A (tryMethod (.ref x) nm b) Q E s := by
  unfold tryMethod
  refine wpAny_bind (special_fn X I hs (beq_iff_eq.mp hf) (wpAny_mono h (fun v s' hv => ?_) fun _ _ e => e))
  cases v <;> first | exact hv.elim | exact wpAny_pure hv
theorem fills_ty {M : Model} {h : Heap} {n nm : String} {r1 r2 : Option Value} (X : K.In h) (h1 : findIn K (.type n) (PySem.dunder nm) = some r1) (h2 : findIn K (.type n) (PySem.dunderR nm) = some r2) :
    Looks M h (fillsNumberSlot (.type n) nm) ((r1.isSome && !isSeqSlot r1) || (r2.isSome && !isSeqSlot r2)) := by
  unfold fillsNumberSlot
  exact (looks_findIn X h1).andThen ((looks_findIn X h2).andThen .now)
theorem inPy {M : Model} {h : Heap} {nm : String} (X : K.In h) (h1 : findIn K (.ref C) (PySem.dunder nm) = some (some (.ref f))) (h2 : findIn K (.ref C) (PySem.dunderR nm) = some none) :
    Looks M h (numberSlotInPython (.ref C) nm) true := by
  unfold numberSlotInPython
  refine (looks_findIn X h1).andThen ?_
  refine Looks.andThen (a := true) .now ?_
  refine (looks_findIn X h2).andThen ?_
  refine Looks.andThen (a := false) .now ?_
  exact .now
theorem binop_ty {op : Operator} {n : String} {r1 r2 : Option Value} {Q : Value → Shared → Prop} (X : K.In s.heap) (I : InstAt s.heap x ox C od) (hb : Looks (model prog w) s.heap (typeOf b) (.type n)) (hc : selfFirst K C = true)
    (hs : findIn K (.ref C) (PySem.dunder op.info.2) = some (some (.ref f))) (hr : findIn K (.ref C) (PySem.dunderR op.info.2) = some none) (hf : isFn K (.ref f) = true)
    (h1 : findIn K (.type n) (PySem.dunder op.info.2) = some r1) (h2 : findIn K (.type n) (PySem.dunderR op.info.2) = some r2) (hsub : subIn K (.type n) (.ref C) = some false)
    (h : wpAny (model prog w) A (call (.ref f) [.ref x, b]) (W.CmpBack Q) E s) : wpAny (model prog w) A (binaryOp op (.ref x) b) Q E s := by
  obtain ⟨cd, hcd, hm⟩ := any_some hc
  obtain ⟨rest, hm⟩ : ∃ rest, cd.mro = .ref C :: rest := by
    cases q : cd.mro with
    | nil => rw [q] at hm; cases hm
    | cons a r => rw [q] at hm; exact ⟨r, by rw [List.head?_cons] at hm; cases (beq_iff_eq.mp hm); rfl⟩
  unfold binaryOp
  refine wpAny_holding (wpAny_bind ?_)
  unfold binaryOp1
  refine wpAny_bind (I.type.here (wpAny_bind (hb.here (wpAny_bind ((fills_K X hcd hm hs).here ?_)))))
  rw [if_neg (by simp)]
  refine wpAny_bind ((fills_ty X h1 h2).here ?_)
  have last : wpAny (model prog w) A (tryMethod (.ref x) (PySem.dunder op.info.2) b) (fun r s' => ∃ v, r = some v ∧ Q v s') E s := tryM X I hs hf (wpAny_mono h (fun v s' hv => by cases v <;> first | exact hv.elim | exact ⟨_, rfl, hv⟩) fun _ _ e => e)
  cases hR : ((r1.isSome && !isSeqSlot r1) || (r2.isSome && !isSeqSlot r2)) with
  | false =>
    simp only [Bool.and_false, Bool.false_eq_true, if_false, Bool.false_and]
    refine wpAny_bind (wpAny_pure ?_)
    simp only [Bool.false_eq_true, if_false, if_true]
    refine wpAny_bind (m := tryMethod (.ref x) _ b) (wpAny_mono last (fun r s' z => ?_) fun _ _ e => e)
    obtain ⟨v, rfl, hq⟩ := z
    exact wpAny_pure (wpAny_pure hq)
  | true =>
    simp only [Bool.and_true, Bool.and_self, if_true]
    refine wpAny_bind ((looks_subIn X hsub).here ?_)
    simp only [Bool.false_eq_true, if_false]
    simp only [Bool.not_false, if_true]
    refine wpAny_bind ((inPy X hs hr).here ?_)
    simp only [if_true]
    refine wpAny_bind (m := numberSlotInPython (.type n) _) ?_
    refine wpAny_pure ?_
    simp only [Bool.not_false, if_true]
    refine wpAny_bind ((looks_findIn X h2).here ?_)
    refine wpAny_bind (m := tryMethod (.ref x) _ b) (wpAny_mono last (fun r s' z => ?_) fun _ _ e => e)
    obtain ⟨v, rfl, hq⟩ := z
    exact wpAny_pure (wpAny_pure hq)
end
end AWR

set_option linter.all false
set_option maxRecDepth 100000
set_option maxHeartbeats 4000000
namespace AW
open PySem PySem.Spec PyProof.Rows L2
section
variable {X : Cx} {CX : CXT} {k : Nat} {C f : Addr} {fd : FuncData} {ps : List Str} {sp : Sp} {E : XK}
/-- a def of the text runs, at some depth -/
theorem run_in {pins : List (Addr × Obj)} {σ : L2.St} {H : Hp} {s : Shared} {Q : VK} {us : List Value} {vs : List V} {A : Around} (F : FnOk X.prog X.w X.K X.mg X.base CX k f fd ps sp) (hr : Room k A) (fr : A.frames = X.A.frames) (hb : Binds X.K fd ps [])
    (hx : Passes CX X E) (iv : Inv X pins σ H s) (r : Vals vs us) (h : sp vs H Q E) : wpAny (model X.prog X.w) A (call (.ref f) us) (EP X pins σ Q) X.xe s := by
  have hl : (us ++ []).length = ps.length := by rw [List.append_nil, ← r.length]; exact F.len _ _ _ _ h
  have e0 : Env0 X.prog X.w X.K X.mg X.base A X.stack s H := by
    have e := iv.env0
    exact ⟨by rw [fr]; exact e.frames, e.mod, e.bs, e.bsz, e.funs, e.frf, e.hok, e.bare⟩
  refine wpAny_call (codeAny_mono (F.run A X.stack s H ⟨us, []⟩ us vs Q E hr e0 (by simpa using hb s us iv.kIn hl) r h) fun r s' kq => ?_)
  cases r with
  | error e => exact hx pins σ H s e s' iv kq
  | ok fl =>
    cases fl with
    | ret u => exact iv.after kq
    | next => exact False.elim kq
    | brk => exact False.elim kq
    | cont => exact False.elim kq
theorem rr (a : Addr) : L2.RelV (.ref a) (.ref a) := rfl
theorem in1_frames (A : Around) : A.in1.frames = A.frames := rfl
/-- the type of a value, read -/
theorem ty_looks {x : V} {u t : Value} {pins : List (Addr × Obj)} {σ : L2.St} {H : Hp} {s : Shared} (iv : Inv X pins σ H s) (rx : RelV x u) (ty : TyX X.K H x t) : PySem.W.Looks (model X.prog X.w) s.heap (typeOf u) t := by
  obtain ⟨P, Z, p, hx⟩ := kit_of iv rx ty
  exact Z.ty _ _ iv.kIn p
/-- what the class's == (own __eq__, object's __ne__) asks -/
structure EqC (K : PySem.W.Frag) (C f : Addr) : Prop where
  eq : PySem.W.findIn K (.ref C) "__eq__" = some (some (.ref f))
  fn : PySem.W.isFn K (.ref f) = true
  ne : PySem.W.findIn K (.ref C) "__ne__" = some (some (.builtin "object.__ne__"))
  mo : PySem.W.mroIn K C (.type "object") = some true
/-- a == b by the own __eq__ of a -/
def rEqO (K : PySem.W.Frag) (C : Addr) (sp : Sp) (E : XK) (g : Bool → Bool) : R2 := fun x y H Q => ∃ a dx fs t, x = .ref a ∧ H a = some (.ins C dx fs) ∧ TyX K H y t ∧ PySem.W.notFirst K C t = true ∧ sp [x, y] H (fun z H' => ∃ b, z = .bl b ∧ Q (.bl (g b)) H') E
theorem op_neO (T : EqC X.K C f) (F : FnOk X.prog X.w X.K X.mg X.base CX k f fd ps sp) (hr : Room (k + 1) X.A) (hb : Binds X.K fd ps []) (hx : Passes CX X E) : OpR X (compareOp .NotEq) (rEqO X.K C sp E not) := by
  intro pins s σ H x y v u Q iv rx ry kq
  obtain ⟨a, dx, fs, t, rfl, ha, ty, hn, q⟩ := kq
  cases rx
  obtain ⟨mo, jv, _⟩ := ins_get iv.hok ha
  obtain ⟨od, jv, _⟩ := jv.look
  show wpAny (model X.prog X.w) X.A (richCompare .NotEq (.ref a) u) (EP X pins σ Q) X.xe s
  refine AWR.ne_K (tb := t) (hu_of hr) iv.kIn jv (ty_looks iv ry ty) hn T.ne T.mo T.eq T.fn ?_
  refine wpAny_mono (run_in F hr.in1 (in1_frames _) hb hx iv (.cons (rr a) (.cons ry .nil)) q) (fun z s' h => ?_) fun _ _ z => z
  obtain ⟨z', H', I', rz, b, ez, qz⟩ := h
  subst ez
  cases rz
  exact ⟨b, rfl, .bl (!b), H', I', rfl, qz⟩
/-- a op b by a's own method, b of the same class or of a built-in one -/
inductive RtOk (K : PySem.W.Frag) (C : Addr) (op : Operator) : Value → Prop where
  | same : RtOk K C op (.ref C)
  | ty {n : String} {r1 r2 : Option Value} (h1 : PySem.W.findIn K (.type n) (PySem.dunder op.info.2) = some r1) (h2 : PySem.W.findIn K (.type n) (PySem.dunderR op.info.2) = some r2) (hs : PySem.W.subIn K (.type n) (.ref C) = some false) : RtOk K C op (.type n)
structure OpC (K : PySem.W.Frag) (C f : Addr) (op : Operator) : Prop where
  self : PySem.W.selfFirst K C = true
  bop : PySem.W.findIn K (.ref C) (PySem.dunder op.info.2) = some (some (.ref f))
  rop : PySem.W.findIn K (.ref C) (PySem.dunderR op.info.2) = some none
  fn : PySem.W.isFn K (.ref f) = true
def rOpO (K : PySem.W.Frag) (C : Addr) (op : Operator) (sp : Sp) (E : XK) : R2 := fun x y H Q => ∃ a dx fs t, x = .ref a ∧ H a = some (.ins C dx fs) ∧ TyX K H y t ∧ RtOk K C op t ∧ sp [x, y] H Q E
theorem op_ownO {op : Operator} (T : OpC X.K C f op) (F : FnOk X.prog X.w X.K X.mg X.base CX k f fd ps sp) (hr : Room k X.A) (hb : Binds X.K fd ps []) (hx : Passes CX X E) : OpR X (binaryOp op) (rOpO X.K C op sp E) := by
  intro pins s σ H x y v u Q iv rx ry kq
  obtain ⟨a, dx, fs, t, rfl, ha, ty, rt, q⟩ := kq
  cases rx
  obtain ⟨mo, jv, _⟩ := ins_get iv.hok ha
  obtain ⟨od, jv, _⟩ := jv.look
  obtain ⟨m, hF⟩ := iv.fr
  have L := ty_looks iv ry ty
  have go : wpAny (model X.prog X.w) X.A (call (.ref f) [.ref a, u]) (PySem.W.CmpBack (EP X pins σ Q)) X.xe s :=
    wpAny_mono (run_in F hr rfl hb hx iv (.cons (rr a) (.cons ry .nil)) q) (fun z s' h => by
      obtain ⟨z', H', I', rz, qz⟩ := h
      exact SlX.cmpback rz ⟨z', H', I', rz, qz⟩) fun _ _ z => z
  cases rt with
  | same => exact PySem.W.binop_K hF iv.ok.mod.kin jv L T.self T.bop T.fn go
  | ty h1 h2 hs => exact AWR.binop_ty iv.kIn jv L T.self T.bop T.rop T.fn h1 h2 hs go
/-- ~a by a's own method -/
def rUnO (C : Addr) (sp : Sp) (E : XK) : V → Hp → VK → Prop := fun x H Q => ∃ a dx fs, x = .ref a ∧ H a = some (.ins C dx fs) ∧ sp [x] H Q E
theorem un_invO (hs : PySem.W.findIn X.K (.ref C) "__invert__" = some (some (.ref f))) (hf : PySem.W.isFn X.K (.ref f) = true) (F : FnOk X.prog X.w X.K X.mg X.base CX k f fd ps sp) (hr : Room k X.A) (hb : Binds X.K fd ps []) (hx : Passes CX X E) : UnR X (unaryOp .Invert) (rUnO C sp E) := by
  intro pins s σ H x v Q iv rx kq
  obtain ⟨a, dx, fs, rfl, ha, q⟩ := kq
  cases rx
  obtain ⟨mo, jv, _⟩ := ins_get iv.hok ha
  obtain ⟨od, jv, _⟩ := jv.look
  obtain ⟨m, hF⟩ := iv.fr
  exact PySem.W.ksp_inv hF iv.ok.mod.kin jv hs hf (run_in F hr rfl hb hx iv (.cons (rr a) .nil) q)
end
end AW

set_option linter.all false
set_option maxRecDepth 100000
set_option maxHeartbeats 4000000
namespace AW
open PySem PySem.Spec PyProof.Rows L2
abbrev Clause := Value × Nat × (Addr → Value → Option Addr → TS)
section
variable {X : Cx} {body : List Stmt} {h₀ : ExceptHandler} {hds : List ExceptHandler} {l : List Clause} {pos : Pos} {tb : WX → TS} {Wout : WX}
end
end AW

set_option linter.all false
set_option maxRecDepth 100000
set_option maxHeartbeats 4000000
namespace AW
open PySem PySem.Spec PyProof.Rows L2 LamX
section
variable {X : Cx} {pins : List (Addr × Obj)} {σ : L2.St} {H HZ : Hp} {s s1 : Shared}
end
end AW

set_option linter.all false
set_option maxRecDepth 100000
set_option maxHeartbeats 4000000
namespace AW
open PySem PySem.Spec PyProof.Rows L2 LamX
section
variable {X : Cx}
end
end AW

set_option linter.all false
set_option maxRecDepth 100000
set_option maxHeartbeats 4000000
namespace AW
open PySem PySem.Spec PyProof.Rows L2 LamX
section
variable {X : Cx}
end
/-- a tuple of the text -/
theorem relV_of_abs {u : Value} {x : V} (h : absV u = some x) : RelV x u := by
  cases u <;> simp only [absV, Option.some.injEq, reduceCtorEq] at h <;> subst h <;> first | rfl | exact ⟨_, rfl⟩
theorem vals_of_abs : ∀ {us : List Value} {xs : List V}, us.map absV = xs.map some → Vals xs us
  | [], [], _ => .nil
  | [], _ :: _, h => nomatch h
  | _ :: _, [], h => nomatch h
  | u :: us, x :: xs, h => by
    rw [List.map_cons, List.map_cons, List.cons.injEq] at h
    exact .cons (relV_of_abs h.1) (vals_of_abs h.2)
theorem sqT_const {K : PySem.W.Frag} {H : Hp} {a : Addr} {od : Option Addr} {its : Array Value} {n : Nat} {sl : Array (Option Value)} {xs : List V} (lk : K.lookup a = some ⟨.type "tuple", od, .seq its n, sl⟩) (h : its.toList.map absV = xs.map some) (hl : xs.length ≤ sizeLine) : SqT K H a xs :=
  .inr ⟨_, its, n, lk, rfl, rfl, by
    have e := congrArg List.length h
    rw [List.length_map, List.length_map, Array.length_toList] at e
    omega, vals_of_abs h⟩
end AW

set_option linter.all false
set_option maxRecDepth 100000
set_option maxHeartbeats 4000000
namespace AW
open PySem PySem.Spec PyProof.Rows L2
end AW

set_option linter.all false
set_option maxRecDepth 100000
set_option maxHeartbeats 4000000
namespace AW
open PySem PySem.Spec PyProof.Rows L2
section
variable {M : Model} {A : Around} {E : Value → Shared → Prop} {s : Shared} {pos : Pos} {x C : Addr} {Q : Value → Shared → Prop}
end
end AW

set_option linter.all false
set_option maxRecDepth 100000
set_option maxHeartbeats 4000000
namespace AW
open PySem PySem.Spec PyProof.Rows L2
section
variable {X : Cx}
end
end AW

set_option linter.all false
set_option maxRecDepth 100000
set_option maxHeartbeats 1000000
namespace RM
open PySem PySem.Spec PyProof.Rows L2 PySem.W
theorem lt_lex : ∀ a b : List Int, listLt a b = HT.lexLt a b
  | [], [] => rfl
  | [], _ :: _ => rfl
  | _ :: _, [] => rfl
  | x :: xs, y :: ys => by
    rw [HT.lexLt_cons]
    show (if x = y then listLt xs ys else decide (x < y)) = _
    rw [lt_lex xs ys]
theorem lex_asym : ∀ a b : List Int, HT.lexLt a b = true → HT.lexLt b a = false
  | [], [], h => by cases h
  | [], _ :: _, _ => rfl
  | _ :: _, [], h => by cases h
  | x :: xs, y :: ys, h => by
    rw [HT.lexLt_cons] at h ⊢
    by_cases e : x = y
    · subst e
      rw [if_pos rfl] at h ⊢
      exact lex_asym xs ys h
    · rw [if_neg e] at h
      rw [if_neg (fun z => e z.symm)]
      have := of_decide_eq_true h
      exact decide_eq_false (by omega)
theorem lex_self : ∀ a : List Int, HT.lexLt a a = false
  | [] => rfl
  | x :: xs => by rw [HT.lexLt_cons, if_pos rfl]; exact lex_self xs
/-- not less is handed on -/
theorem lex_nl : ∀ a b c : List Int, HT.lexLt a b = false → HT.lexLt b c = false → HT.lexLt a c = false
  | [], [], c, _, h => h
  | [], _ :: _, _, h, _ => by cases h
  | _ :: _, _, [], _, _ => rfl
  | _ :: _, [], _ :: _, _, h => by cases h
  | x :: xs, y :: ys, z :: zs, h1, h2 => by
    rw [HT.lexLt_cons] at h1 h2 ⊢
    by_cases e1 : x = y
    · subst e1
      rw [if_pos rfl] at h1
      by_cases e2 : x = z
      · subst e2
        rw [if_pos rfl] at h2 ⊢
        exact lex_nl xs ys zs h1 h2
      · rw [if_neg e2] at h2 ⊢
        exact h2
    · rw [if_neg e1] at h1
      have h1 := of_decide_eq_false h1
      by_cases e2 : y = z
      · subst e2
        rw [if_neg e1]
        exact decide_eq_false h1
      · rw [if_neg e2] at h2
        have h2 := of_decide_eq_false h2
        have e3 : x ≠ z := by omega
        rw [if_neg e3]
        exact decide_eq_false (by omega)
theorem fold_min (ns : List (Tup Int)) : ∀ x : Tup Int, (minOf x ns ∈ x :: ns) ∧ ∀ y ∈ x :: ns, HT.lexLt y.items (minOf x ns).items = false := by
  induction ns with
  | nil =>
    intro x
    refine ⟨by simp [minOf], fun y hy => ?_⟩
    simp at hy
    subst hy
    exact lex_self _
  | cons n ns ih =>
    intro x
    have e : minOf x (n :: ns) = minOf (if DatumOrd.lt n x = true then n else x) ns := rfl
    have el : DatumOrd.lt n x = HT.lexLt n.items x.items := lt_lex _ _
    rw [e, el]
    by_cases h : HT.lexLt n.items x.items = true
    · rw [if_pos h]
      obtain ⟨h1, h2⟩ := ih n
      refine ⟨List.mem_cons_of_mem _ h1, fun y hy => ?_⟩
      rcases List.mem_cons.mp hy with rfl | hy
      · exact lex_nl _ _ _ (lex_asym _ _ h) (h2 n (by simp))
      · exact h2 y hy
    · have h : HT.lexLt n.items x.items = false := by simpa using h
      rw [h]
      rw [if_neg (by decide)]
      obtain ⟨h1, h2⟩ := ih x
      refine ⟨?_, fun y hy => ?_⟩
      · rcases List.mem_cons.mp h1 with z | z
        · rw [z]; simp
        · exact List.mem_cons_of_mem _ (List.mem_cons_of_mem _ z)
      · rcases List.mem_cons.mp hy with rfl | hy
        · exact h2 y (by simp)
        · rcases List.mem_cons.mp hy with rfl | hy
          · exact lex_nl _ _ _ h (h2 x (by simp))
          · exact h2 y (List.mem_cons_of_mem _ hy)
section
variable {X : Cx}
end
end RM

set_option linter.all false
set_option maxRecDepth 100000
set_option maxHeartbeats 4000000
namespace RN
open PySem PySem.SeqAt GQ
open AutoSeq1 (wpAny_loadPart')
open MeetsSeq MeetsSeq2 MeetsSeq3 SeqRoads2
section
variable {prog : Program} {w : World} {A : Around} {R : Result → Shared → Prop}
end
section
variable {prog : Program} {w : World} {A : Around} {E : Value → Shared → Prop} {s : Shared}
end
end RN
namespace AW
open PySem PySem.Spec PyProof.Rows L2
section
variable {X : Cx} {n : Nat} {D : Eqv}
end
end AW

set_option linter.all false
set_option maxRecDepth 100000
set_option maxHeartbeats 4000000
namespace AW
open PySem PySem.Spec PyProof.Rows L2
section
variable {X : Cx}
def iOr (t u : TI) : TI := fun σ H R => t σ H R ∨ u σ H R
theorem pi_or {tg l : Expr} {t u : TI} (h1 : PI X tg l t) (h2 : PI X tg l u) : PI X tg l (iOr t u) := ⟨fun pins s σ H R I h => h.elim (h1.run pins s σ H R I) (h2.run pins s σ H R I)⟩
end
end AW

set_option linter.all false
set_option maxRecDepth 100000
set_option maxHeartbeats 4000000
namespace RN
open PySem PySem.SeqAt GQ
open AutoSeq1 (wpAny_loadPart')
open MeetsSeq MeetsSeq2 MeetsSeq3 SeqRoads2
section
variable {prog : Program} {w : World} {A : Around} {R : Result → Shared → Prop}
end
section
variable {prog : Program} {w : World} {A : Around} {E : Value → Shared → Prop} {s : Shared}
end
end RN
namespace AW
open PySem PySem.Spec PyProof.Rows L2
section
variable {X : Cx}
end
end AW

set_option linter.all false
set_option maxRecDepth 100000
set_option maxHeartbeats 4000000
namespace AW
open PySem PySem.Spec PyProof.Rows L2
section
variable {X : Cx}
end
def EntL (K : PySem.W.Frag) (w : World) : List DictEntry → List (Str × List V) → Prop
  | [], [] => True
  | e :: es, (k, xs) :: l => (∃ t b, e = ⟨hashStr w k, .str k t, .ref b⟩ ∧ ∀ H : Hp, SqT K H b xs) ∧ EntL K w es l
  | _, _ => False
class CDict (K : PySem.W.Frag) (w : World) (nm : Str) (l : List (Str × List V)) : Prop where
  ok : ∀ a, PySem.W.nsIn K mainGlobals nm = some (some (.ref a)) → ∃ (es : Array DictEntry) (ep : Nat), K.lookup a = some ⟨.type "dict", none, .dict es ep, #[]⟩ ∧ EntL K w es.toList l ∧ (a == sysModules) = false
theorem entL {P : Program} {K : PySem.W.Frag} {w : World} : ∀ {es : List DictEntry} {l : List (Str × List V)}, EntL K w es l → ∃ kvs : List (Key × Value), (∀ e ∈ es, ∃ k, (mixKind P w).is k e.key = true ∧ e.hash = (mixKind P w).hash k) ∧ Pairs (mixKind P w) es kvs ∧ kvs.map (·.1) = l.map (fun p => (Sum.inr p.1 : Key)) ∧
    (∀ k xs, l.lookup k = some xs → ∃ b, valueAt kvs (.inr k) = some (.ref b) ∧ ∀ H : Hp, SqT K H b xs) ∧ ∀ k, l.lookup k = none → valueAt kvs (.inr k) = none
  | [], [], _ => ⟨[], fun _ h => (nomatch h), .nil, rfl, fun k xs h => by simp at h, fun _ _ => rfl⟩
  | [], _ :: _, h => h.elim
  | _ :: _, [], h => h.elim
  | e :: es, (k, xs) :: l, ⟨⟨t, b, ee, hs⟩, h⟩ => by
    subst ee
    obtain ⟨kvs, h1, h2, h3, h4, h5⟩ := entL (P := P) h
    refine ⟨(.inr k, .ref b) :: kvs, fun e he => ?_, .cons (keyIs_str k t) rfl h2, by rw [List.map_cons, List.map_cons, h3], fun k' xs' hl => ?_, fun k' hl => ?_⟩
    · rcases List.mem_cons.mp he with rfl | he
      · exact ⟨.inr k, keyIs_str k t, rfl⟩
      · exact h1 e he
    · by_cases hk : k' = k
      · subst hk
        simp only [List.lookup, beq_self_eq_true, Option.some.injEq] at hl
        subst hl
        exact ⟨b, by simp [valueAt], hs⟩
      · have hb : (k' == k) = false := beq_eq_false_iff_ne.mpr hk
        simp only [List.lookup, hb] at hl
        obtain ⟨b', e1, e2⟩ := h4 k' xs' hl
        refine ⟨b', ?_, e2⟩
        rw [← e1]
        simp only [valueAt, List.find?_cons]
        have hn : decide ((Sum.inr k : Key) = Sum.inr k') = false := decide_eq_false fun z => hk (Sum.inr.inj z).symm
        rw [hn]
    · by_cases hk : k' = k
      · subst hk
        simp only [List.lookup, beq_self_eq_true] at hl
        cases hl
      · have hb : (k' == k) = false := beq_eq_false_iff_ne.mpr hk
        simp only [List.lookup, hb] at hl
        have e1 := h5 k' hl
        rw [← e1]
        simp only [valueAt, List.find?_cons]
        have hn : decide ((Sum.inr k : Key) = Sum.inr k') = false := decide_eq_false fun z => hk (Sum.inr.inj z).symm
        rw [hn]
section
variable {X : Cx}
def tCDict (K : PySem.W.Frag) (l : List (Str × List V)) (ti : TE) : TE := fun σ H Q => ti σ H fun y H1 => ∃ k xs, y = .str k ∧ l.lookup k = some xs ∧ ∀ b, (∀ H : Hp, SqT K H b xs) → Q (.ref b) H1
theorem pe_cdict {nm : Str} {l : List (Str × List V)} {c : Addr} {i : Expr} {ti : TE} {p pos : Pos} [cd : CDict X.K X.w nm l] (nd : (l.map (·.1)).Nodup) (hg : Gl X nm) (hc : PySem.W.nsIn X.K mainGlobals nm = some (some (.ref c))) (hm : X.mg nm = some (.ref c)) (hi : PE X i ti) (hs : NoSl i)
    (hdb : (nm == ("__debug__" : Str)) = false := by decide) : PE X (.Subscript (.Name nm p) i pos) (tCDict X.K l ti) := by
  obtain ⟨es, ep, lk, ent, _⟩ := cd.ok c hc
  obtain ⟨kvs, h1, h2, h3, h4, _⟩ := entL (P := X.prog) ent
  refine ⟨fun pins s σ H Q I h => ?_⟩
  refine subD_of PySem.F.slot_dict_getitem.lookup hs (thn ((pe_glob (v := V.ref c) (pos := p) hg hm rfl hdb).run pins s σ H (fun v H1 => v = V.ref c ∧ H1 = H) I ⟨rfl, rfl⟩) fun u s1 ⟨x, H1, I1, rx, ex, eH⟩ => ?_)
  subst ex eH
  obtain rfl : u = Value.ref c := rx
  refine thn (hi.run pins s1 σ H1 _ I1 h) fun iv s2 ⟨y, H2, I2, ry, k, xs, ey, hl, q2⟩ => ?_
  subst ey
  have ho := I2.kIn c _ lk
  have dd : s2.heap.DictOf (mixKind X.prog X.w) c kvs := ⟨_, es, ep, ho, ⟨rfl, rfl, rfl⟩, rfl, fun e he => h1 e (by simpa using he), h2, by
    rw [h3]
    have : (l.map fun p => (Sum.inr p.1 : Key)) = (l.map (·.1)).map Sum.inr := by rw [List.map_map]; rfl
    rw [this]
    exact nd.map _ fun a b hab z => hab (Sum.inr.inj z)⟩
  obtain ⟨b, hv, hb⟩ := h4 k xs hl
  exact ⟨⟨_, ho, rfl⟩, wpAny_getItem_of (k := (Sum.inr k : Key)) (kV_is (k := (Sum.inr k : Key)) ry) dd.mapOf hv ⟨.ref b, H2, I2.tok _, rfl, q2 b hb⟩⟩
end
end AW

set_option linter.all false
set_option maxRecDepth 100000
set_option maxHeartbeats 4000000
namespace AW
open PySem PySem.Spec PyProof.Rows L2
abbrev I3 := Int × Int × Int
abbrev l3 (p : I3) : List Int := [p.1, p.2.1, p.2.2]
def IsTrip (h : Heap) (v : Value) (p : I3) : Prop := ∃ a o t u w n, v = .ref a ∧ h.get? a = some o ∧ o.cls = .type "tuple" ∧ o.data = .seq #[.int p.1 t, .int p.2.1 u, .int p.2.2 w] n
theorem IsTrip.keeps {h h' : Heap} {v : Value} {x : I3} (p : IsTrip h v x) (k : ∀ b o, h.get? b = some o → o.cls = .type "tuple" → h'.get? b = some o) : IsTrip h' v x := by
  obtain ⟨a, o, t, u, w, n, e, ho, hc, hd⟩ := p
  exact ⟨a, o, t, u, w, n, e, k _ _ ho hc, hc, hd⟩
section
variable {prog : Program} {w : World} {A : Around} {s : Shared}
end
section
variable {X : Cx}
end
end AW

set_option linter.all false
set_option maxRecDepth 100000
set_option maxHeartbeats 4000000
namespace AW
open PySem PySem.Spec PyProof.Rows L2
section
variable {X : Cx} {CX : CXT} {k : Nat} {f C : Addr} {fd : FuncData} {ps : List Str} {ds : List Value} {dvs : List V} {sp : Sp} {E : XK} {x : Str} {e : Expr} {te : TE} {p q pos : Pos}
theorem pe_makeS (M : Mk X.K C f) (F : FnOk X.prog X.w X.K X.mg X.base CX k f fd ps sp) (room : Room (k + 1) X.A) (hg : Gl X x) (hm : X.mg x = some (.ref C)) (bn : L2.Binds X.K fd ps ds) (vl : Vals dvs ds) (pass : Passes CX X E)
    (arg : PE X e te) (nodebug : (x == ("__debug__" : Str)) = false := by decide) (one : starEach [.Starred e q] X.env = [(true, eval e X.env)] := by rfl) :
    PE X (.Call (.Name x p) [.Starred e q] [] pos) (tMake C sp dvs E (StX.tStar X.K te tNil)) := by
  refine ⟨fun pins s σ H Q I h => ?_⟩
  refine wpAny_Call_Name_kw (ld_glob I hg hm ?_ nodebug)
  refine PySem.W.callWith_S (h₀ := X.base) I.ok.mod.kin M.kp (thn (arg.run pins s σ H _ I h) fun v s1 ⟨y, H1, I1, ry, a, us, ey, hus, go⟩ => ?_) one
  subst ey
  obtain rfl : v = Value.ref a := ry
  refine StX.star_any I1 hus fun ws s2 I2 rv => ⟨I2.kIn, ?_⟩
  have go' := go
  unfold tNil at go'
  dsimp only at go'
  rw [List.append_nil] at go'
  exact run_make M F room bn vl pass I2 rv go'
end
/-- the tuple at a, each item in a new pair with its number -/
def IteT (K : PySem.W.Frag) (a : Addr) : It where
  go := fun n H => ∃ (us : List V) (u : V), SqT K H a us ∧ us[n]? = some u
  yld := fun n H v H' => ∃ b u, v = .ref b ∧ H b = none ∧ H' = upd H b (.tup [.int (n : Nat), u]) ∧ ∀ us, SqT K H a us → us[n]? = some u
  stop := fun n H => ∃ us : List V, SqT K H a us ∧ us.length ≤ n
theorem apart_tup {h : Heap} {a b : Addr} {its : Array Value} {o : Obj} (p : h.IsTuple a its) (hb : h.get? b = some o) (hc : o.cls ≠ .type "tuple") : b ≠ a := fun z => by
  subst z
  obtain ⟨o', ho', hc', _⟩ := p
  rw [hb] at ho'
  cases ho'
  exact hc hc'
theorem turn_enumT {P : Program} {w : World} {K : PySem.W.Frag} {elts : List Expr} {kk : Nat} {tpos : Pos} (a en it : Addr) :
    Turn P w K (.Tuple elts kk tpos) (IteT K a) [en, it] en (fun n h => (∃ old, IsEnum h en it ((n : Nat) : Int) old) ∧ h.IsTupleIter it a n ∧ en ≠ it) where
  mem := List.mem_cons_self ..
  obj := by
    rintro n h ⟨⟨old, he⟩, ⟨o, ho, _, hd⟩, _⟩ b hb
    rcases (by simpa using hb : b = en ∨ b = it) with z | z
    · subst z; exact ⟨_, he, fun v y => nomatch y⟩
    · subst z; exact ⟨o, ho, fun v y => by rw [hd] at y; cases y⟩
  keep := by
    rintro n h h' ⟨⟨old, he⟩, hi, ne⟩ kp
    exact ⟨⟨old, kp en (by simp) _ he⟩, hi.at fun o y => kp it (by simp) o y, ne⟩
  item := by
    intro X hP hw hK hc n pins s σ H E I hf st hg
    subst hP hw hK
    obtain ⟨⟨old, he⟩, hit, ne⟩ := st
    obtain ⟨us, u, hq, hu⟩ := hg
    obtain ⟨its, rv, pt, _⟩ := I.tuple hq
    have pt : s.heap.IsTuple a its.toArray := pt
    obtain ⟨v, hv, rvu⟩ := rv.get hu
    have lt1 : en < s.heap.objs.size := Heap.lt_size he
    have n2 : it ≠ a := by
      obtain ⟨o, ho, hcl, _⟩ := id hit
      exact apart_tup pt ho (by rw [hcl]; exact fun z => absurd (Value.type.inj z) (by decide))
    have n3 : en ≠ a := apart_tup pt he (fun z => absurd (Value.type.inj z) (by decide))
    have lt2 : it < s.heap.objs.size := by
      obtain ⟨_, y, _⟩ := hit
      exact Heap.lt_size y
    have hh : X.A.in1.handled = none := I.ok.hd hc
    have hn : n < its.toArray.size := by
      have := (List.getElem?_eq_some_iff.mp hv).1
      simpa using this
    refine wpAny_pyNext_enum_itemD (Draws.tuple hh it a n2.symm its.toArray) he ⟨hit, pt⟩ hn ne (by simp [ne, n3]) fun v' h' tk hv' out hst hT hsz old' => ?_
    obtain rfl : v' = v := by
      have h1 : its[n]? = some v' := by simpa using hv'
      rw [hv] at h1
      cases h1
      rfl
    refine ⟨_, rfl, wpAny_letOwnedTupleGo_enum (s := { s with heap := h', toks := tk + 1 }) out fun h2 en2 same => ?_⟩
    have T2 : h2.get? s.heap.objs.size = some { cls := .type "tuple", data := .seq #[.int n tk, v'] } := (same.2 _ (Nat.ne_of_gt lt1)).trans hT
    have fresh : ObjOk X.prog X.w (upd H s.heap.objs.size (.tup [.int (n : Nat), u])) h2 s.heap.objs.size (.tup [.int (n : Nat), u]) :=
      ⟨show 2 ≤ sizeLine from by decide, [.int n tk, v'], .cons ⟨_, rfl⟩ (.cons rvu .nil), ⟨_, T2, rfl, _, rfl⟩⟩
    have I1 : Inv X pins σ (upd H s.heap.objs.size (.tup [.int (n : Nat), u])) { s with heap := h2, toks := tk + 1 } :=
      I.turnedNew (ch := [en, it]) (fun b ob hb y => (same.2 b (fun z => hb (by simp [z]))).trans (old' b ob (fun z => hb (by simp [z])) (fun z => hb (by simp [z])) y)) hf (Nat.le_refl _) fresh
    refine ⟨.ref s.heap.objs.size, _, I1, rfl, ⟨_, u, rfl, I.hok.fresh (Nat.le_refl _), rfl, fun ys hy => by rw [I.tuple_inj hy hq]; exact hu⟩, ⟨⟨v', ?_⟩, hst.1.at fun o y => (same.2 it (Ne.symm ne)).trans y, ne⟩, fun b hb => ?_⟩
    · rw [show ((n + 1 : Nat) : Int) = (n : Int) + 1 by omega]
      exact en2
    · have lb : b < s.heap.objs.size := by
        rcases (by simpa using hb : b = en ∨ b = it) with z | z <;> rw [z] <;> assumption
      rw [upd_ne (Nat.ne_of_lt lb)]
      exact (hf b hb).1
  done := by
    intro X hP hw hK hc n pins s σ H E I hf st hg
    subst hP hw hK
    obtain ⟨⟨old, he⟩, hit, ne⟩ := st
    obtain ⟨us, hq, hu⟩ := hg
    obtain ⟨its, rv, pt, _⟩ := I.tuple hq
    have pt : s.heap.IsTuple a its.toArray := pt
    obtain ⟨f0, f1, f2, f3, f4, f5⟩ := hf it (by simp)
    have ll := rv.length
    have hh : X.A.in1.handled = none := I.ok.hd hc
    have D0 : Draws X.prog X.w X.A.in1 it [it, a] 0 (fun _ _ => False) (fun j h => h.IsTupleIter it a (n + j) ∧ h.IsTuple a its.toArray) := {
      live := fun _ _ z => by
        obtain ⟨⟨o, ho, _⟩, _⟩ := z
        exact ⟨o, ho⟩
      frame := fun _ _ _ z kp => ⟨z.1.at fun o y => kp it (by simp) o y, z.2.at fun o y => kp a (by simp) o y⟩
      item := fun j s Q E hj => absurd hj (Nat.not_lt_zero j)
      done := fun s Q E z hE => wpAny_nextOf_tuple_end hh z.1 z.2 (by simp; omega) hE }
    exact wpAny_pyNext_enum_endD D0 he ⟨hit, pt⟩ fun h' eb => ⟨rfl, I.turned (t' := s.toks) (fun b o hb y => eb b o hb y) f0 f1 f3 f4 f5⟩
  self := fun A n s Q E st h => by
    obtain ⟨⟨_, he⟩, _⟩ := st
    exact wpAny_pyIter_enum he h
theorem vals1' {v : V} {ws : List Value} (h : Vals [v] ws) : ∃ w, ws = [w] ∧ RelV v w := by
  cases h with
  | cons r rr => cases rr; exact ⟨_, rfl, r⟩
open PySem in
set_option maxHeartbeats 1000000 in
theorem meets_enum1 {v : Value} {o : Obj} {J : Heap → Prop} (b : Begins v o J) :
    Meets (Builtin.«enumerate.__new__» ⟨[.type "enumerate", v], []⟩) (fun _ R s => J s.heap ∧
      R (.ok (.ret (.ref (s.heap.push o).objs.size))) { s with heap := (s.heap.push o).push { cls := .type "enumerate", data := .fields #[.none, .bool false, .ref s.heap.objs.size, rawInt 0, .none, .none] } }) :=
  .of_wp fun prog w A R s h => by
    obtain ⟨h0, g0, d0, t0, o0⟩ := s
    obtain ⟨hj, hR⟩ := h
    have below := sub_enumerate
    have iter : ∀ {A1 : Around} {E Q : Value → Shared → Prop}, Q (.ref h0.objs.size) ⟨h0.push o, g0, d0, t0, o0⟩ → wpAny (model prog w) A1 (pyIter v) Q E ⟨h0, g0, d0, t0, o0⟩ :=
      fun z => b.iter prog w _ _ ⟨h0, g0, d0, t0, o0⟩ _ hj z
    wp_walk using iter
    refine wpAny_stack_any fun st => wpAny_pure ?_
    split
    · rename_i c _ _ _ _ _
      cases (c == Value.type "enumerate")
      · wp_walk using iter
        exact ⟨_, rfl, hR⟩
      · wp_walk using iter
        exact ⟨_, rfl, hR⟩
    · wp_walk using iter
      exact ⟨_, rfl, hR⟩
theorem enum1_begins {prog : Program} {w : World} {A : Around} {E : Value → Shared → Prop} {s : Shared} {v : Value} {o : Obj} {J : Heap → Prop} {Q : Value → Shared → Prop} (b : Begins v o J) (hj : J s.heap)
    (h : ∀ h', IsEnum h' (s.heap.objs.size + 1) s.heap.objs.size 0 .none → h'.get? s.heap.objs.size = some o → h'.objs.size = s.heap.objs.size + 2 →
      (∀ c ob, s.heap.get? c = some ob → h'.get? c = some ob) → Q (.ref (s.heap.objs.size + 1)) { s with heap := h' }) :
    wpAny (model prog w) A (call (.type "enumerate") [v]) Q E s := by
  refine callType_new F.called_enumerate (by decide) (F.typeCall_enumerate_1 _) (F.newCall_enumerate_1 _) (fun obj => F.args_object_init_2 obj _) F.entry_enumerate_new (meets_enum1 b) ⟨hj, ?_⟩
  have hz : (s.heap.push o).objs.size = s.heap.objs.size + 1 := Heap.size_push ..
  show _ ∧ _
  rw [hz]
  have at1 : IsEnum ((s.heap.push o).push { cls := .type "enumerate", data := .fields #[.none, .bool false, .ref s.heap.objs.size, rawInt 0, .none, .none] }) (s.heap.objs.size + 1) s.heap.objs.size 0 .none := by
    have z := Heap.get?_push_size (s.heap.push o) (o := { cls := .type "enumerate", data := .fields #[.none, .bool false, .ref s.heap.objs.size, rawInt 0, .none, .none] }) rfl
    rw [hz] at z
    exact z
  refine ⟨⟨_, at1, rfl⟩, h _ at1 (Heap.get?_push_of_some _ (Heap.get?_push_size _ b.free)) (by rw [Heap.size_push, hz]) fun c ob y => Heap.get?_push_of_some _ (Heap.get?_push_of_some _ y)⟩
def iEnumT (K : PySem.W.Frag) (ta : TA) : TI := fun σ H R => ta σ H fun vs H1 => ∃ a us, vs = [.ref a] ∧ SqT K H1 a us ∧ R (IteT K a) H1
theorem pi_enumT {X : Cx} {e : Expr} {ta : TA} {p pos tpos : Pos} {elts : List Expr} {kk : Nat} (gl : Gl X "enumerate") (mg : X.mg "enumerate" = none) (arg : PA X [e] ta) (one : starEach [e] X.env = [(false, eval e X.env)] := by rfl) :
    PI X (.Tuple elts kk tpos) (.Call (.Name "enumerate" p) [e] [] pos) (iEnumT X.K ta) := by
  refine ⟨fun pins s σ H R I h => ?_⟩
  refine Call_ (ld_blt I gl mg boot_enumerate (PyProof.Rows.callWith_type1 (thn (arg.run pos pins s σ H _ I h) fun ws s1 ⟨vs, H1, I1, r1, a, us, ev, hq, go⟩ => ?_) one rfl))
  subst ev
  obtain ⟨v, rfl, rv⟩ := vals1' r1
  obtain rfl : v = Value.ref a := rv
  obtain ⟨its, _, pt, _⟩ := I1.tuple hq
  have pt : s1.heap.IsTuple a its.toArray := pt
  refine enum1_begins (begins_tuple a its.toArray) pt fun h' he hit hsz kp => wpAny_pyIter_enum he ?_
  have I2 : Inv X pins σ H1 { s1 with heap := h' } := I1.kept (t' := s1.toks) kp
  refine ⟨s1.heap.objs.size + 1, [s1.heap.objs.size + 1, s1.heap.objs.size], _, _, H1, rfl, I2, turn_enumT a (s1.heap.objs.size + 1) s1.heap.objs.size, ⟨⟨.none, he⟩, ⟨_, hit, rfl, rfl⟩, Nat.succ_ne_self _⟩, fun b hb => ?_, go⟩
  have lb : s1.heap.objs.size ≤ b := by
    rcases (by simpa using hb : b = s1.heap.objs.size + 1 ∨ b = s1.heap.objs.size) with z | z <;> rw [z]
    · exact Nat.le_succ _
    · exact Nat.le_refl _
  exact I1.fpOk lb (I1.hok.fresh lb)
end AW

set_option linter.all false
set_option maxRecDepth 100000
set_option maxHeartbeats 4000000
namespace AW
open PySem PySem.Spec PyProof.Rows L2
section
variable {X : Cx}
end
end AW

set_option linter.all false
set_option maxRecDepth 100000
set_option maxHeartbeats 4000000
namespace AW
open PySem PySem.Spec PyProof.Rows L2
end AW

set_option linter.all false
set_option maxRecDepth 100000
set_option maxHeartbeats 4000000
namespace AW
open PySem PySem.Spec PyProof.Rows L2
section
variable {prog : Program} {w : World} {A : Around} {E : Value → Shared → Prop} {s : Shared}
end
section
variable {X : Cx}
end
end AW

set_option linter.all false
set_option maxRecDepth 100000
set_option maxHeartbeats 4000000
namespace AW
open PySem PySem.Spec PyProof.Rows L2
end AW

set_option linter.all false
set_option maxRecDepth 100000
set_option maxHeartbeats 4000000
namespace AW
open PySem PySem.Spec PyProof.Rows L2
end AW

set_option linter.all false
set_option maxRecDepth 100000
set_option maxHeartbeats 4000000
namespace AWR
open PySem PySem.W PyProof.Rows Builtin
section
variable {prog : Program} {w : World} {A : Around} {E : Value → Shared → Prop} {s : Shared} {K : Frag} {x C f : Addr} {ox : Obj} {oD : Option Obj} {b tb : Value}
end
end AWR
namespace AW
open PySem PySem.Spec PyProof.Rows L2
section
variable {X : Cx} {CX : CXT} {k : Nat} {C f : Addr} {fd : FuncData} {ps : List Str} {sp : Sp} {E : XK}
end
end AW

set_option linter.all false
set_option maxRecDepth 100000
set_option maxHeartbeats 4000000
namespace RI
open PySem PySem.SeqAt
section
variable {prog : Program} {w : World} {A : Around} {E : Value → Shared → Prop} {s : Shared} {K : PySem.W.Frag} {x y C : Addr} {ox oy : Obj} {od od' : Option Obj}
end
end RI
namespace AW
open PySem PySem.Spec PyProof.Rows L2
section
variable {X : Cx}
end
end AW

set_option linter.all false
set_option maxRecDepth 100000
set_option maxHeartbeats 1000000
namespace RM
open PySem PySem.Spec PyProof.Rows L2 PySem.W
section
variable {X : Cx}
end
end RM

set_option linter.all false
set_option maxRecDepth 100000
set_option maxHeartbeats 2000000
namespace RM
open PySem PySem.Spec PyProof.Rows L2 PySem.W PySem.SeqAt
/-- the smaller of two, of data -/
theorem pair_data {pg : Program} {wd : World} {Ar : Around} {Er : Value → Shared → Prop} {st : Shared} {u v : Value} {dx dy : PyData} {ads : List Addr} {Qe : Value → Shared → Prop} (cold : Ar.handled = none)
    (rd : ReadsAll st.heap [u, v] [dx, dy] ads) (al : AlikeAll [dx, dy]) (room : Ar.units + 1 + PyData.depthAll [dx, dy] < cLine)
    (fin : ∀ (j : Nat) z hp tk bs, (#[u, v] : Array Value)[j]? = some z → Reads hp z (minD dx [dy]) bs → (∀ c o, st.heap.get? c = some o → hp.get? c = some o) → Qe z { st with heap := hp, toks := tk }) :
    wpAny (model pg wd) Ar (call (.builtin "min") [u, v]) Qe Er st := by
  have lp : (toString "min" ++ toString ".loop" : String) = "min.loop" := by decide
  refine PySem.call_function_tree PySem.F.kind_min PySem.F.plain_min PySem.F.entry_min (PySem.F.args_min2 _ _) ?_
  show wpAny _ Ar.in1 (Builtin.Builtins.bindParams "min" ["key", "default"] 0 { pos := [], kw := [] } >>= _) _ _ st
  refine wpAny_bind (wpAny_of_eq (a := [none, none]) rfl ?_)
  show wpAny _ Ar.in1 (newTuple (u :: [v]) >>= _) _ _ st
  refine wpAny_bind (wpAny_newObj_type ?_)
  have tp : (st.heap.push { cls := .type "tuple", data := .seq #[u, v] }).IsTuple st.heap.objs.size #[u, v] := ⟨_, Heap.get?_push_size _ rfl, rfl, 0, rfl⟩
  have grow : ∀ c o, st.heap.get? c = some o → (st.heap.push { cls := .type "tuple", data := .seq #[u, v] }).get? c = some o := fun c o e => Heap.get?_push_of_some _ e
  have rd2 : ReadsAll (st.heap.push { cls := .type "tuple", data := .seq #[u, v] }) [u, v] [dx, dy] ads := ReadsAll.keeps grow rd
  refine wpAny_bind (wpAny_mono (iter_tupleW (A := Ar.in1) (Q := fun it s2 => it = .ref (st.heap.objs.size + 1) ∧
    WalksS pg wd Ar.in1 (st.heap.objs.size + 1) [st.heap.objs.size + 1, st.heap.objs.size] [st.heap.objs.size + 1] (fun p q => q = p) 2 (fun i z => (#[u, v] : Array Value)[i]? = some z) (fun i s' => s'.heap.IsTupleIter (st.heap.objs.size + 1) st.heap.objs.size i ∧ s'.heap.IsTuple st.heap.objs.size #[u, v]) ∧
    (s2.heap.IsTupleIter (st.heap.objs.size + 1) st.heap.objs.size 0 ∧ s2.heap.IsTuple st.heap.objs.size #[u, v]) ∧
    (∀ c ∈ [st.heap.objs.size + 1, st.heap.objs.size], c < s2.heap.objs.size) ∧
    ∃ ob, s2 = { st with heap := (st.heap.push { cls := .type "tuple", data := .seq #[u, v] }).push ob }) cold tp (fun s2 e W t0 t1 t2 t3 => ?_)) (fun it s2 h2 => ?_) fun _ _ e => e)
  · rw [Heap.size_push] at W t0 t1 ⊢
    exact ⟨rfl, W, t0, t1, _, e⟩
  · obtain ⟨rfl, W, t0, t1, ob, e2⟩ := h2
    have k2 : ∀ c o, (st.heap.push { cls := .type "tuple", data := .seq #[u, v] }).get? c = some o → s2.heap.get? c = some o := fun c o e => by rw [e2]; exact Heap.get?_push_of_some _ e
    have old : ∀ c o, (st.heap.push { cls := .type "tuple", data := .seq #[u, v] }).get? c = some o → c ∉ [st.heap.objs.size + 1] := fun c o e hm => by
      have := Heap.lt_size e
      rw [Heap.size_push, List.mem_singleton.mp hm] at this
      exact Nat.lt_irrefl _ this
    refine wpAny_bind (wpAny_newObj_type ?_)
    have nin : s2.heap.objs.size ∉ [st.heap.objs.size + 1, st.heap.objs.size] := fun hm => Nat.lt_irrefl _ (t1 _ hm)
    rw [lp]
    refine wpAny_pure ⟨plainId_quiet PySem.F.plain_min_loop _, codeAny_min_loop_firstH W (st.heap.push { cls := .type "tuple", data := .seq #[u, v] }) old (fun i j => dataLt ([dx, dy].getD i .none) ([dx, dy].getD j .none)) (cmpIn_lt (A := Ar.in1) (s := { st with heap := st.heap.push { cls := .type "tuple", data := .seq #[u, v] } }) (vs := #[u, v]) rd2 al (show Ar.units + 1 + _ < _ from room)) s2.heap.objs.size nin (fresh_in k2) _ (by decide)
      (fun c o e => Heap.get?_push_of_some _ (k2 c o e)) (W.frame 0 s2 _ s2.toks t0 (Nat.le_refl _) fun c _ o e => Heap.get?_push_of_some _ e) (Heap.get?_push_size _ rfl) fun z s' hz hm => ?_⟩
    have hm2 := Moved.drop_new (tk := s2.toks) hm (Nat.le_refl _)
    have e3 : s2 = { st with heap := (st.heap.push { cls := .type "tuple", data := .seq #[u, v] }).push ob } := e2
    obtain ⟨hp, tk, rfl, kp⟩ := moved_old (s := { st with heap := st.heap.push { cls := .type "tuple", data := .seq #[u, v] } }) e3 (by rw [Heap.size_push]) hm2
    obtain ⟨bs, rz, _, _, _⟩ := readsAll_atA (vs := #[u, v]) rd2 _ z hz
    have best := (argBest_fold dataLt PyData.none dx [dy] 1 (Nat.le_refl _)).2
    have rz2 : Reads (st.heap.push { cls := .type "tuple", data := .seq #[u, v] }) z (minD dx [dy]) bs := by
      unfold minD
      rw [show List.take 1 [dy] = [dy] from rfl] at best
      rw [← best]
      exact rz
    exact fin _ z hp tk bs hz (reads_keeps kp rz2) fun c o e => kp c o (grow c o e)
theorem pair_datum {pg : Program} {wd : World} {Ar : Around} {Er : Value → Shared → Prop} {st : Shared} {u v : Value} {x y : Tup Int} {Qe : Value → Shared → Prop} (cold : Ar.handled = none)
    (hd : HoldAll st.heap [u, v] [x, y]) (room : Ar.units + 1 + 1 < cLine)
    (fin : ∀ (j : Nat) z hp tk, (#[u, v] : Array Value)[j]? = some z → Holds hp z (minOf x [y]) → (∀ c o, st.heap.get? c = some o → hp.get? c = some o) → Qe z { st with heap := hp, toks := tk }) :
    wpAny (model pg wd) Ar (call (.builtin "min") [u, v]) Qe Er st := by
  obtain ⟨ads, rd⟩ := hd
  refine pair_data cold rd (alikeAll_datum [x, y]) (room_all (depthAll_map [x, y]) room) fun j z hp tk bs hj r kp => fin j z hp tk hj ⟨bs, ?_⟩ kp
  rw [← minD_map]; exact r
def rMin2T (K : PySem.W.Frag) : List V → Hp → VK → Prop := fun vs H Q => ∃ (u1 u2 : V) (n1 n2 : List Int), vs = [u1, u2] ∧ (∃ t, u1 = .ref t ∧ SqT K H t (n1.map V.int)) ∧ (∃ t, u2 = .ref t ∧ SqT K H t (n2.map V.int)) ∧
  (HT.lexLt n2 n1 = false → Q u1 H) ∧ (HT.lexLt n1 n2 = false → Q u2 H)
theorem tup_eq {h : Heap} {t : Addr} {a b : Array Value} (p : h.IsTuple t a) (q : h.IsTuple t b) : a = b := by
  obtain ⟨o, g1, _, n, d1⟩ := p
  obtain ⟨o', g2, _, n', d2⟩ := q
  rw [g1] at g2
  cases g2
  rw [d1] at d2
  injection d2
section
variable {X : Cx}
theorem cr_min2T (hc : X.calm = true) (hu : X.A.units + 65 < cLine) : CallR X (.builtin "min") (rMin2T X.K) := by
  intro pins s σ H vs us' Q I r h
  obtain ⟨u1, u2, n1, n2, rfl, ⟨t1, rfl, q1⟩, ⟨t2, rfl, q2⟩, k1, k2⟩ := h
  obtain ⟨w1, w2, rfl, r1, r2⟩ := L2.vals2 r
  obtain rfl : w1 = .ref t1 := r1
  obtain rfl : w2 = .ref t2 := r2
  obtain ⟨i1, a1, p1, _⟩ := I.tuple q1
  obtain ⟨i2, a2, p2, _⟩ := I.tuple q2
  have HA : HoldAll s.heap [.ref t1, .ref t2] [Tup.mk n1, Tup.mk n2] :=
    HoldAll.cons (holds_tup (show s.heap.IsTuple t1 i1.toArray from p1) (HoldAll.of_ints (by simpa using a1.ints))) (HoldAll.cons (holds_tup (show s.heap.IsTuple t2 i2.toArray from p2) (HoldAll.of_ints (by simpa using a2.ints))) HoldAll.nil)
  refine pair_datum (I.ok.hd hc) HA (show X.A.units + 1 + 1 < cLine by omega) fun j z hp tk hj hv hk => ?_
  have lst := (fold_min [Tup.mk n2] (Tup.mk n1)).2
  have key : ∀ (t : Addr) (its : List Value) (ns : List Int), IntsAre its ns → s.heap.IsTuple t its.toArray → z = .ref t → ns = (minOf (Tup.mk n1) [Tup.mk n2]).items := fun t its ns hi hp1 ez => by
    subst ez
    obtain ⟨l, ws, e, hT, hA⟩ := tup_of_holds hv
    cases e
    have ew : ws = its.toArray := tup_eq hT (IsTup.keeps hp1 hk)
    subst ew
    have e1 : IntsAre its (minOf (Tup.mk n1) [Tup.mk n2]).items := by simpa using hA.toInts
    rw [← e1.numsOf, ← hi.numsOf]
  match j, hj with
  | 0, hj =>
    have ez : z = .ref t1 := (Option.some.inj hj).symm
    have e2 := key t1 i1 n1 a1.ints p1 ez
    rw [ez]
    refine ⟨.ref t1, H, I.kept hk, rfl, k1 ?_⟩
    have := lst (Tup.mk n2) (by simp)
    rw [← e2] at this
    exact this
  | 1, hj =>
    have ez : z = .ref t2 := (Option.some.inj hj).symm
    have e2 := key t2 i2 n2 a2.ints p2 ez
    rw [ez]
    refine ⟨.ref t2, H, I.kept hk, rfl, k2 ?_⟩
    have := lst (Tup.mk n1) (by simp)
    rw [← e2] at this
    exact this
  | n + 2, hj => exact nomatch hj
end
end RM

set_option linter.all false
set_option maxRecDepth 100000
set_option maxHeartbeats 4000000
namespace AW
open PySem PySem.Spec PyProof.Rows L2 LamX
/-- the tables of the lambdas, of a law's text -/
class Tbs where
  T : List (Addr × Str)
inductive D where
  | non | bl (b : Bool) | int (i : Int) | str (x : Str)
  | tup (ds : List D) | lst (ds : List D)
  | ins (C : Addr) (ns : List Str) (ds : List D)
  | pen (k l : Str)
  | scr (ns : List Int)
  | val (v : V)
  | lam (q : Str) (mk : Addr → Addr → HO)
  | at_ (u : V) (d : D)
  | edk
  | dk (ks : List Str) (ds : List D)
  | tb (d : D)
  | kt (ks : List Key)
  | dt (lk : Bool) (ks : List (List Key)) (ds : List D)
def penE (k l : Str) (c : Addr) (s r : Int) : List (Key × V) := [(Sum.inr "cells", .ref c), (Sum.inr k, .int s), (Sum.inr l, .int r)]
def IsPen (o : HO) : Prop := (∃ k l c s r, o = .dK (penE k l c s r)) ∨ ∃ ps, o = .tbl ps
/-- how many cells a pen has: the tape of the tables' laws (keys at, rest) has one at least -/
def PenL (k l : Str) (n : Nat) : Prop := n ≤ 63 ∧ (k = "at" → l = "rest" → 0 < n)
variable [Tbs]
section
variable (K : PySem.W.Frag) (G : Hp) (B : Int)
mutual
def Rep : D → V → Prop
  | .non, v => v = .non
  | .bl b, v => v = .bl b
  | .int i, v => v = .int i
  | .str x, v => v = .str x
  | .tup ds, v => ∃ a vs, v = .ref a ∧ SqT K G a vs ∧ RepL ds vs
  | .lst ds, v => ∃ a vs, v = .ref a ∧ G a = some (.lst vs) ∧ RepL ds vs
  | .ins C ns ds, v => ∃ a dx vs, v = .ref a ∧ G a = some (.ins C dx (ns.zip vs)) ∧ ns.length = vs.length ∧ RepL ds vs
  | .pen k l, v => Tabs Tbs.T G ∧ ∃ (a c : Addr) (ns : List Int) (s r : Int), v = .ref a ∧ G a = some (.dK (penE k l c s r)) ∧ G c = some (.lst (ns.map V.int)) ∧ PenL k l ns.length ∧ 0 ≤ s ∧ s ≤ B
  | .val u, v => v = u
  | .at_ u d, v => v = u ∧ Rep d v
  | .tb d, v => Tabs Tbs.T G ∧ Rep d v
  | .edk, v => ∃ a, v = .ref a ∧ G a = some (.dK [])
  | .dk ks ds, v => ∃ a vs, v = .ref a ∧ G a = some (.dK (mergeK [] ((ks.zip vs).map fun p => ((Sum.inr p.1 : Key), p.2)))) ∧ ¬ IsPen (.dK (mergeK [] ((ks.zip vs).map fun p => ((Sum.inr p.1 : Key), p.2)))) ∧ RepL ds vs
  | .kt ks, v => ∃ a, v = .ref a ∧ G a = some (.tup (ks.map kV))
  | .dt lk ks ds, v => ∃ a vs, v = .ref a ∧ (G a = some (.dT (ks.zip vs)) ∨ lk = true ∧ ∃ o, G a = some (.frz o (.dT (ks.zip vs)))) ∧ ks.length = vs.length ∧ RepL ds vs
  | .lam q mk, v => ∃ f d, v = .ref f ∧ G f = some (mk f d) ∧ G d = some (CodeO d q) ∧ ¬ IsPen (mk f d)
  | .scr ns, v => Tabs Tbs.T G ∧ ∃ a, v = .ref a ∧ SqL K G a ((ns : List Int).map V.int)
def RepL : List D → List V → Prop
  | [], vs => vs = []
  | d :: ds, vs => ∃ v r, vs = v :: r ∧ Rep d v ∧ RepL ds r
end
end
def Sub (G H : Hp) : Prop := ∀ a o, G a = some o → H a = some o
structure Le (G : Hp) (B : Int) (G' : Hp) (B' : Int) : Prop where
  b : B ≤ B'
  keep : ∀ a o, G a = some o → ¬ IsPen o → G' a = some o
  pen : ∀ a k l c s r, G a = some (.dK (penE k l c s r)) → ∃ s' r', G' a = some (.dK (penE k l c s' r')) ∧ (0 ≤ s → s ≤ B → 0 ≤ s' ∧ s' ≤ B')
  tb : Tabs Tbs.T G → Tabs Tbs.T G'
theorem Le.refl (G : Hp) (B : Int) : Le G B G B := ⟨Int.le_refl _, fun _ _ h _ => h, fun _ _ _ _ s r h => ⟨s, r, h, fun a b => ⟨a, b⟩⟩, fun h => h⟩
theorem Le.trans {G G1 G2 : Hp} {B B1 B2 : Int} (a : Le G B G1 B1) (b : Le G1 B1 G2 B2) : Le G B G2 B2 :=
  ⟨Int.le_trans a.b b.b, fun c o h n => b.keep c o (a.keep c o h n) n, fun c k l q s r h => by
    obtain ⟨s1, r1, h1, k1⟩ := a.pen c k l q s r h
    obtain ⟨s2, r2, h2, k2⟩ := b.pen c k l q s1 r1 h1
    exact ⟨s2, r2, h2, fun x y => k2 (k1 x y).1 (k1 x y).2⟩, fun h => b.tb (a.tb h)⟩
theorem Le.of_sub {G H : Hp} {B B' : Int} (s : Sub G H) (b : B ≤ B') : Le G B H B' := ⟨b, fun a o h _ => s a o h, fun a k l c z r h => ⟨z, r, s _ _ h, fun x y => ⟨x, Int.le_trans y b⟩⟩, fun h => h.ext s⟩
theorem nopen_tup {xs : List V} : ¬ IsPen (.tup xs) := fun h => by
  rcases h with ⟨_, _, _, _, _, h⟩ | ⟨_, h⟩ <;> cases h
theorem nopen_lst {xs : List V} : ¬ IsPen (.lst xs) := fun h => by
  rcases h with ⟨_, _, _, _, _, h⟩ | ⟨_, h⟩ <;> cases h
theorem nopen_ins {C dx : Addr} {fs : List (Str × V)} : ¬ IsPen (.ins C dx fs) := fun h => by
  rcases h with ⟨_, _, _, _, _, h⟩ | ⟨_, h⟩ <;> cases h
theorem nopen_frz {o : Obj} {u : HO} : ¬ IsPen (.frz o u) := fun h => by
  rcases h with ⟨_, _, _, _, _, h⟩ | ⟨_, h⟩ <;> cases h
theorem nopen_edk : ¬ IsPen (.dK []) := fun h => by
  rcases h with ⟨_, _, _, _, _, h⟩ | ⟨_, h⟩ <;> cases h
theorem nopen_code {c : Addr} {q : Str} : ¬ IsPen (CodeO c q) := fun h => by
  unfold CodeO at h
  rcases h with ⟨_, _, _, _, _, h⟩ | ⟨_, h⟩ <;> cases h
theorem nopen_dT {kvs : List (List Key × V)} : ¬ IsPen (.dT kvs) := fun h => by
  rcases h with ⟨_, _, _, _, _, h⟩ | ⟨_, h⟩ <;> cases h
theorem Le.seqT {K : PySem.W.Frag} {G G' : Hp} {B B' : Int} {a : Addr} {xs : List V} (l : Le G B G' B') (h : SqT K G a xs) : SqT K G' a xs := by
  rcases h with (h | ⟨o, h⟩) | h
  · exact .inl (.inl (l.keep _ _ h nopen_tup))
  · exact .inl (.inr ⟨o, l.keep _ _ h nopen_frz⟩)
  · exact .inr h
theorem Le.seqL {K : PySem.W.Frag} {G G' : Hp} {B B' : Int} {a : Addr} {xs : List V} (l : Le G B G' B') (h : SqL K G a xs) : SqL K G' a xs := by
  rcases h with (h | ⟨o, h⟩) | h
  · exact .inl (.inl (l.keep _ _ h nopen_lst))
  · exact .inl (.inr ⟨o, l.keep _ _ h nopen_frz⟩)
  · exact .inr h
section
variable {K : PySem.W.Frag} {G G' : Hp} {B B' : Int}
mutual
theorem Rep.mono (l : Le G B G' B') : ∀ {d : D} {v : V}, Rep K G B d v → Rep K G' B' d v
  | .non, _, h => h
  | .bl _, _, h => h
  | .int _, _, h => h
  | .str _, _, h => h
  | .tup _, _, ⟨a, vs, e, h, r⟩ => ⟨a, vs, e, l.seqT h, RepL.mono l r⟩
  | .lst _, _, ⟨a, vs, e, h, r⟩ => ⟨a, vs, e, l.keep _ _ h nopen_lst, RepL.mono l r⟩
  | .ins _ _ _, _, ⟨a, dx, vs, e, h, n, r⟩ => ⟨a, dx, vs, e, l.keep _ _ h nopen_ins, n, RepL.mono l r⟩
  | .pen k j, _, ⟨hT, a, c, ns, s, r, e, h, hc, n, h0, h1⟩ => by
    obtain ⟨s', r', h', q⟩ := l.pen a k j c s r h
    exact ⟨l.tb hT, a, c, ns, s', r', e, h', l.keep _ _ hc nopen_lst, n, (q h0 h1).1, (q h0 h1).2⟩
  | .val _, _, h => h
  | .at_ _ _, _, ⟨e, h⟩ => ⟨e, Rep.mono l h⟩
  | .tb _, _, ⟨e, h⟩ => ⟨l.tb e, Rep.mono l h⟩
  | .edk, _, ⟨a, e, h⟩ => ⟨a, e, l.keep _ _ h nopen_edk⟩
  | .dk _ _, _, ⟨a, vs, e, h, n, r⟩ => ⟨a, vs, e, l.keep _ _ h n, n, RepL.mono l r⟩
  | .kt _, _, ⟨a, e, h⟩ => ⟨a, e, l.keep _ _ h nopen_tup⟩
  | .dt _ _ _, _, ⟨a, vs, e, h, n, r⟩ => ⟨a, vs, e, h.imp (fun z => l.keep _ _ z nopen_dT) (fun z => ⟨z.1, let ⟨o, y⟩ := z.2; ⟨o, l.keep _ _ y nopen_frz⟩⟩), n, RepL.mono l r⟩
  | .lam _ _, _, ⟨f, d, e, h1, h2, n⟩ => ⟨f, d, e, l.keep _ _ h1 n, l.keep _ _ h2 nopen_code, n⟩
  | .scr _, _, ⟨hT, a, e, h⟩ => ⟨l.tb hT, a, e, l.seqL h⟩
theorem RepL.mono (l : Le G B G' B') : ∀ {ds : List D} {vs : List V}, RepL K G B ds vs → RepL K G' B' ds vs
  | [], _, h => h
  | _ :: _, _, ⟨v, r, e, h, hr⟩ => ⟨v, r, e, Rep.mono l h, RepL.mono l hr⟩
end
theorem RepL.length : ∀ {ds : List D} {vs : List V}, RepL K G B ds vs → ds.length = vs.length
  | [], _, h => by rw [show _ = _ from h]; rfl
  | _ :: _, _, ⟨v, r, e, h, hr⟩ => by rw [e, List.length_cons, List.length_cons, RepL.length hr]
theorem RepL.get : ∀ {ds : List D} {vs : List V} {i : Nat} {d : D}, RepL K G B ds vs → ds[i]? = some d → ∃ v, vs[i]? = some v ∧ Rep K G B d v
  | [], _, _, _, _, e => by simp at e
  | _ :: _, _, 0, d, ⟨v, r, e, h, hr⟩, q => by
    simp at q; subst q
    exact ⟨v, by rw [e]; rfl, h⟩
  | _ :: _, _, i + 1, d, ⟨v, r, e, h, hr⟩, q => by
    obtain ⟨u, h1, h2⟩ := RepL.get (i := i) hr (by simpa using q)
    exact ⟨u, by rw [e]; simpa using h1, h2⟩
theorem RepL.get' : ∀ {ds : List D} {vs : List V} {i : Nat} {v : V}, RepL K G B ds vs → vs[i]? = some v → ∃ d, ds[i]? = some d ∧ Rep K G B d v
  | [], _, i, _, h, e => by rw [show _ = _ from h] at e; simp at e
  | d :: _, _, 0, v, ⟨u, r, e, h, hr⟩, q => by
    rw [e] at q; simp at q; subst q
    exact ⟨d, rfl, h⟩
  | d :: _, _, i + 1, v, ⟨u, r, e, h, hr⟩, q => by
    rw [e] at q
    obtain ⟨w, h1, h2⟩ := RepL.get' (i := i) hr (by simpa using q)
    exact ⟨w, by simpa using h1, h2⟩
theorem RepL.append : ∀ {ds es : List D} {vs ws : List V}, RepL K G B ds vs → RepL K G B es ws → RepL K G B (ds ++ es) (vs ++ ws)
  | [], _, _, _, h, k => by rw [show _ = _ from h]; exact k
  | _ :: _, _, _, _, ⟨v, r, e, h, hr⟩, k => ⟨v, r ++ _, by rw [e]; rfl, h, RepL.append hr k⟩
theorem RepL.take : ∀ {ds : List D} {vs : List V} (n : Nat), RepL K G B ds vs → RepL K G B (ds.take n) (vs.take n)
  | _, _, 0, _ => by simp [RepL]
  | [], _, n + 1, h => by rw [show _ = _ from h]; simp [RepL]
  | _ :: _, _, n + 1, ⟨v, r, e, h, hr⟩ => ⟨v, r.take n, by rw [e]; rfl, h, RepL.take n hr⟩
theorem RepL.drop : ∀ {ds : List D} {vs : List V} (n : Nat), RepL K G B ds vs → RepL K G B (ds.drop n) (vs.drop n)
  | _, _, 0, h => h
  | [], _, n + 1, h => by rw [show _ = _ from h]; simp [RepL]
  | _ :: _, _, n + 1, ⟨v, r, e, h, hr⟩ => by rw [e]; exact RepL.drop n hr
theorem RepL.ints : ∀ ns : List Int, RepL K G B (ns.map D.int) (ns.map V.int)
  | [] => rfl
  | _ :: r => ⟨_, _, rfl, rfl, RepL.ints r⟩
end
/-- no table, no tuple -/
abbrev NTb (o : HO) : Prop := (∀ ps, o ≠ .tbl ps) ∧ ∀ xs, o ≠ .tup xs
/-- the heap H with its known part G, grown to H' with G' -/
structure Ext (G H : Hp) (B : Int) (G' H' : Hp) (B' : Int) : Prop where
  le : Le G B G' B'
  sub : Sub G' H'
  fr : ∀ a o, H a = some o → G a = none → NTb o → H' a = some o ∧ G' a = none
theorem Ext.refl {G H : Hp} {B : Int} (s : Sub G H) : Ext G H B G H B := ⟨Le.refl _ _, s, fun _ _ h n _ => ⟨h, n⟩⟩
theorem Ext.trans {G H G1 H1 G2 H2 : Hp} {B B1 B2 : Int} (a : Ext G H B G1 H1 B1) (b : Ext G1 H1 B1 G2 H2 B2) : Ext G H B G2 H2 B2 :=
  ⟨a.le.trans b.le, b.sub, fun c o h n t => b.fr c o (a.fr c o h n t).1 (a.fr c o h n t).2 t⟩
/-- a new known object -/
theorem Ext.new {G H : Hp} {B : Int} {p : Addr} {o : HO} (s : Sub G H) (h : H p = none) : Ext G H B (upd G p o) (upd H p o) B := by
  have g : G p = none := by
    cases e : G p with
    | none => rfl
    | some u => rw [s _ _ e] at h; cases h
  refine ⟨Le.of_sub (fun a u e => by rw [upd_ne (ne_of_none e g)]; exact e) (Int.le_refl _), fun a u e => ?_, fun a u e n _ => ?_⟩
  · by_cases q : a = p
    · subst q; rw [upd_same] at e ⊢; exact e
    · rw [upd_ne q] at e ⊢; exact s _ _ e
  · have q := ne_of_none e h
    rw [upd_ne q, upd_ne q]
    exact ⟨e, n⟩
/-- a tuple that stands may be known -/
theorem Ext.learn {G H : Hp} {B : Int} {p : Addr} {xs : List V} (s : Sub G H) (h : H p = some (.tup xs)) : Ext G H B (upd G p (.tup xs)) H B := by
  have sub : Sub G (upd G p (.tup xs)) := fun a o e => by
    by_cases q : a = p
    · subst q; rw [upd_same, ← s _ _ e, h]
    · rw [upd_ne q]; exact e
  refine ⟨Le.of_sub sub (Int.le_refl _), fun a o e => ?_, fun a o e n t => ⟨e, ?_⟩⟩
  · by_cases q : a = p
    · subst q; rw [upd_same] at e; cases e; exact h
    · rw [upd_ne q] at e; exact s _ _ e
  · rw [upd_ne (fun q => by subst q; rw [h] at e; cases e; exact t.2 _ rfl)]; exact n
/-- a new object that is not told -/
theorem Ext.hid {G H : Hp} {B : Int} {p : Addr} {o : HO} (s : Sub G H) (h : H p = none) : Ext G H B G (upd H p o) B :=
  ⟨Le.refl _ _, fun a u e => by rw [upd_ne (ne_of_none (s _ _ e) h)]; exact s _ _ e, fun a u e n _ => ⟨by rw [upd_ne (ne_of_none e h)]; exact e, n⟩⟩
def EnvR (K : PySem.W.Frag) (G : Hp) (B : Int) : List (Option D) → L2.St → Prop
  | [], σ => σ = []
  | o :: ρ, σ => ∃ x r, σ = x :: r ∧ (∀ d, o = some d → ∃ v, x = some v ∧ Rep K G B d v) ∧ EnvR K G B ρ r
section
variable {K : PySem.W.Frag} {G G' : Hp} {B B' : Int}
theorem EnvR.mono (l : Le G B G' B') : ∀ {ρ : List (Option D)} {σ : L2.St}, EnvR K G B ρ σ → EnvR K G' B' ρ σ
  | [], _, h => h
  | _ :: _, _, ⟨x, r, e, h, hr⟩ => ⟨x, r, e, fun d q => let ⟨v, h1, h2⟩ := h d q; ⟨v, h1, h2.mono l⟩, EnvR.mono l hr⟩
theorem EnvR.get : ∀ {ρ : List (Option D)} {σ : L2.St} {i : Nat} {d : D}, EnvR K G B ρ σ → ρ[i]? = some (some d) → ∃ v, σ[i]? = some (some v) ∧ Rep K G B d v
  | [], _, _, _, _, e => by simp at e
  | _ :: _, _, 0, d, ⟨x, r, e, h, hr⟩, q => by
    simp at q; subst q
    obtain ⟨v, h1, h2⟩ := h d rfl
    exact ⟨v, by rw [e, h1]; rfl, h2⟩
  | _ :: _, _, i + 1, d, ⟨x, r, e, h, hr⟩, q => by
    obtain ⟨v, h1, h2⟩ := EnvR.get (i := i) hr (by simpa using q)
    exact ⟨v, by rw [e]; simpa using h1, h2⟩
theorem EnvR.set {d : D} {v : V} (hv : Rep K G B d v) : ∀ {ρ : List (Option D)} {σ : L2.St} (i : Nat), EnvR K G B ρ σ → EnvR K G B (ρ.set i (some d)) (σ.set i (some v))
  | [], _, _, h => by rw [show _ = _ from h]; exact rfl
  | _ :: _, _, 0, ⟨x, r, e, h, hr⟩ => ⟨some v, r, by rw [e]; rfl, fun d' q => by cases q; exact ⟨v, rfl, hv⟩, hr⟩
  | _ :: _, _, i + 1, ⟨x, r, e, h, hr⟩ => ⟨x, r.set i (some v), by rw [e]; rfl, h, EnvR.set hv i hr⟩
theorem EnvR.wipe1 : ∀ {ρ : List (Option D)} {σ : L2.St} (i : Nat), EnvR K G B ρ σ → EnvR K G B (ρ.set i none) (σ.set i none)
  | [], _, _, h => by rw [show _ = _ from h]; exact rfl
  | _ :: _, _, 0, ⟨x, r, e, h, hr⟩ => ⟨none, r, by rw [e]; rfl, (fun d' q => by cases q), hr⟩
  | _ :: _, _, i + 1, ⟨x, r, e, h, hr⟩ => ⟨x, r.set i none, by rw [e]; rfl, h, EnvR.wipe1 i hr⟩
theorem EnvR.len : ∀ {ρ : List (Option D)} {σ : L2.St}, EnvR K G B ρ σ → ρ.length = σ.length
  | [], _, h => by rw [show _ = _ from h]; rfl
  | _ :: _, _, ⟨x, r, e, h, hr⟩ => by rw [e, List.length_cons, List.length_cons, EnvR.len hr]
theorem EnvR.of_vals : ∀ {ds : List D} {vs : List V} (n : Nat), RepL K G B ds vs → EnvR K G B (ds.map some ++ List.replicate n none) (vs.map some ++ List.replicate n none)
  | [], _, n, h => by
    rw [show _ = _ from h]
    show EnvR K G B (List.replicate n none) (List.replicate n none)
    induction n with
    | zero => exact rfl
    | succ n ih => exact ⟨none, List.replicate n none, rfl, (fun d q => by cases q), ih⟩
  | d :: _, _, n, ⟨v, r, e, h, hr⟩ => ⟨some v, r.map some ++ List.replicate n none, by rw [e]; rfl, fun d' q => by cases q; exact ⟨v, rfl, h⟩, EnvR.of_vals n hr⟩
end
def wipeD (ρ : List (Option D)) : List Nat → List (Option D)
  | [] => ρ
  | v :: vs => (wipeD ρ vs).set v none
theorem EnvR.wipe {K : PySem.W.Frag} {G : Hp} {B : Int} {ρ : List (Option D)} {σ : L2.St} (h : EnvR K G B ρ σ) : ∀ vs : List Nat, EnvR K G B (wipeD ρ vs) (L2.wipe σ vs)
  | [] => h
  | v :: vs => EnvR.wipe1 v (EnvR.wipe h vs)
def startD (N : List Str) (ds : List D) : List (Option D) := ds.map some ++ List.replicate (N.length - ds.length) none
/-- what is wanted of errors: class, fields, the pens' bound -/
abbrev EW := Addr → Option (List Str × List D) → Int → Prop
def XOk (K : PySem.W.Frag) (E : XK) (e : EW) (G H : Hp) (B : Int) : Prop := ∀ C f B' G' H', e C f B' → Ext G H B G' H' B' →
  match f with
  | none => E (.ref C) none H'
  | some (ns, ds) => ∀ dx vs, H' dx = some (.xd (ns.zip vs)) → ns.length = vs.length → RepL K G' B' ds vs → E (.ref C) (some dx) H'
theorem XOk.ext {K : PySem.W.Frag} {E : XK} {e : EW} {G H G1 H1 : Hp} {B B1 : Int} (x : XOk K E e G H B) (h : Ext G H B G1 H1 B1) : XOk K E e G1 H1 B1 := fun C f B' G' H' q h' => x C f B' G' H' q (h.trans h')
abbrev KD := D → Int → Prop
abbrev KL := List D → Int → Prop
abbrev KE' := List (Option D) → Int → Prop
def KOk (K : PySem.W.Frag) (k : KD) (Q : VK) (G H : Hp) (B : Int) : Prop := ∀ d v B' G' H', k d B' → Ext G H B G' H' B' → Rep K G' B' d v → Q v H'
theorem KOk.ext {K : PySem.W.Frag} {k : KD} {Q : VK} {G H G1 H1 : Hp} {B B1 : Int} (x : KOk K k Q G H B) (h : Ext G H B G1 H1 B1) : KOk K k Q G1 H1 B1 := fun d v B' G' H' q h' => x d v B' G' H' q (h.trans h')
def NOk (K : PySem.W.Frag) (k : KE') (Q : L2.St → Hp → Prop) (G H : Hp) (B : Int) : Prop := ∀ ρ σ B' G' H', k ρ B' → Ext G H B G' H' B' → EnvR K G' B' ρ σ → Q σ H'
theorem NOk.ext {K : PySem.W.Frag} {k : KE'} {Q : L2.St → Hp → Prop} {G H G1 H1 : Hp} {B B1 : Int} (x : NOk K k Q G H B) (h : Ext G H B G1 H1 B1) : NOk K k Q G1 H1 B1 := fun d v B' G' H' q h' => x d v B' G' H' q (h.trans h')
/-- an expression -/
def We (K : PySem.W.Frag) (E : XK) (e : EW) (t : TE) (ρ : List (Option D)) (B : Int) (k : KD) : Prop := ∀ σ H G Q, Sub G H → EnvR K G B ρ σ → XOk K E e G H B → KOk K k Q G H B → t σ H Q
/-- a test -/
def Wt (K : PySem.W.Frag) (E : XK) (e : EW) (t : TT) (ρ : List (Option D)) (B : Int) (k : Bool → Int → Prop) : Prop := ∀ σ H G (Q : Bool → Hp → Prop), Sub G H → EnvR K G B ρ σ → XOk K E e G H B → (∀ b B' G' H', k b B' → Ext G H B G' H' B' → Q b H') → t σ H Q
/-- arguments -/
def Wa (K : PySem.W.Frag) (E : XK) (e : EW) (t : TA) (ρ : List (Option D)) (B : Int) (k : KL) : Prop := ∀ σ H G (Q : List V → Hp → Prop), Sub G H → EnvR K G B ρ σ → XOk K E e G H B → (∀ ds vs B' G' H', k ds B' → Ext G H B G' H' B' → RepL K G' B' ds vs → Q vs H') → t σ H Q
structure KS where
  nx : KE' := fun _ _ => False
  rt : KD
  bk : KE' := fun _ _ => False
  ct : KE' := fun _ _ => False
structure EndsOk (K : PySem.W.Frag) (κ : KS) (Dn : Ends) (G H : Hp) (B : Int) : Prop where
  nx : NOk K κ.nx Dn.nx G H B
  rt : KOk K κ.rt Dn.rt G H B
  bk : NOk K κ.bk Dn.bk G H B
  ct : NOk K κ.ct Dn.ct G H B
theorem EndsOk.ext {K : PySem.W.Frag} {κ : KS} {Dn : Ends} {G H G1 H1 : Hp} {B B1 : Int} (x : EndsOk K κ Dn G H B) (h : Ext G H B G1 H1 B1) : EndsOk K κ Dn G1 H1 B1 := ⟨x.nx.ext h, x.rt.ext h, x.bk.ext h, x.ct.ext h⟩
/-- a statement -/
def Ws (K : PySem.W.Frag) (E : XK) (e : EW) (t : TS) (ρ : List (Option D)) (B : Int) (κ : KS) : Prop := ∀ σ H G Dn, Sub G H → EnvR K G B ρ σ → XOk K E e G H B → EndsOk K κ Dn G H B → t Dn σ H
/-- a target -/
def Wg (K : PySem.W.Frag) (g : TG) (d : D) (ρ : List (Option D)) (B : Int) (k : KE') : Prop := ∀ v σ H G Q, Sub G H → EnvR K G B ρ σ → Rep K G B d v → NOk K k Q G H B → g v σ H Q
def Wgs (K : PySem.W.Frag) (g : TGs) (ds : List D) (ρ : List (Option D)) (B : Int) (k : KE') : Prop := ∀ vs σ H G Q, Sub G H → EnvR K G B ρ σ → RepL K G B ds vs → NOk K k Q G H B → g vs σ H Q
section
variable {K : PySem.W.Frag} {E : XK} {e : EW} {ρ : List (Option D)} {B : Int} {k : KD} {κ : KS} {ta tb : TE} {t : TA}
theorem We.at {t : TE} {d : D} (h : ∀ σ H G, Sub G H → EnvR K G B ρ σ → ∃ v, Rep K G B d v ∧ ∀ Q : VK, Q v H → t σ H Q) (hk : k d B) : We K E e t ρ B k := fun σ H G Q s en x q => by
  obtain ⟨v, r, f⟩ := h σ H G s en
  exact f Q (q d v B G H hk (Ext.refl s) r)
theorem we_var {i : Nat} {d : D} (h : ρ[i]? = some (some d)) (hk : k d B) : We K E e (tVar i) ρ B k :=
  We.at (fun σ H G s en => let ⟨v, h1, h2⟩ := en.get h; ⟨v, h2, fun Q q => ⟨v, h1, q⟩⟩) hk
theorem we_int {i : Int} (hk : k (.int i) B) : We K E e (tC (.int i)) ρ B k := We.at (d := (.int i)) (fun σ H G s en => ⟨.int i, rfl, fun Q q => q⟩) hk
theorem we_bl {i : Bool} (hk : k (.bl i) B) : We K E e (tC (.bl i)) ρ B k := We.at (d := (.bl i)) (fun σ H G s en => ⟨.bl i, rfl, fun Q q => q⟩) hk
theorem we_str {i : Str} (hk : k (.str i) B) : We K E e (tC (.str i)) ρ B k := We.at (d := (.str i)) (fun σ H G s en => ⟨.str i, rfl, fun Q q => q⟩) hk
theorem we_non (hk : k .non B) : We K E e (tC .non) ρ B k := We.at (d := .non) (fun σ H G s en => ⟨.non, rfl, fun Q q => q⟩) hk
theorem We.imp {t : TE} {k' : KD} (h : We K E e t ρ B k) (f : ∀ d B', k d B' → k' d B') : We K E e t ρ B k' := fun σ H G Q s en x q => h σ H G Q s en x fun d v B' G' H' hk => q d v B' G' H' (f d B' hk)
/-- two values -/
def Ro (K : PySem.W.Frag) (E : XK) (e : EW) (r : R2) (a b : D) (B : Int) (k : KD) : Prop := ∀ x y H G Q, Sub G H → Rep K G B a x → Rep K G B b y → XOk K E e G H B → KOk K k Q G H B → r x y H Q
theorem we_op {r : R2} (h : We K E e ta ρ B fun a B1 => We K E e tb ρ B1 fun b B2 => Ro K E e r a b B2 k) : We K E e (tOp r ta tb) ρ B k := fun σ H G Q s en x q =>
  h σ H G _ s en x fun a v B1 G1 H1 h1 e1 r1 => h1 σ H1 G1 _ e1.sub (en.mono e1.le) (x.ext e1) fun b u B2 G2 H2 h2 e2 r2 =>
    h2 v u H2 G2 Q e2.sub (r1.mono e2.le) r2 (x.ext (e1.trans e2)) (q.ext (e1.trans e2))
theorem ro_i0 {f : Int → Int → Int} {i j : Int} (h : k (.int (f i j)) B) : Ro K E e (rI0 fun i j => V.int (f i j)) (.int i) (.int j) B k := fun x y H G Q s r1 r2 _ q =>
  ⟨i, j, r1, r2, q _ _ _ _ _ h (Ext.refl s) rfl⟩
theorem ro_b0 {f : Int → Int → Bool} {i j : Int} (h : k (.bl (f i j)) B) : Ro K E e (rI0 fun i j => V.bl (f i j)) (.int i) (.int j) B k := fun x y H G Q s r1 r2 _ q =>
  ⟨i, j, r1, r2, q _ _ _ _ _ h (Ext.refl s) rfl⟩
theorem ro_i {f : Int → Int → Int} {C : Int → Int → Prop} {i j : Int} (c : C i j) (h : k (.int (f i j)) B) : Ro K E e (rI C fun i j => V.int (f i j)) (.int i) (.int j) B k := fun x y H G Q s r1 r2 _ q =>
  ⟨i, j, r1, r2, c, q _ _ _ _ _ h (Ext.refl s) rfl⟩
theorem we_un {r : V → Hp → VK → Prop} (h : We K E e ta ρ B fun a B1 => ∀ x H G Q, Sub G H → Rep K G B1 a x → XOk K E e G H B1 → KOk K k Q G H B1 → r x H Q) : We K E e (tUn r ta) ρ B k := fun σ H G Q s en x q =>
  h σ H G _ s en x fun a v B1 G1 H1 h1 e1 r1 => h1 v H1 G1 Q e1.sub r1 (x.ext e1) (q.ext e1)
theorem we_neg {f : Int → Int} (h : We K E e ta ρ B fun a B1 => ∃ i, a = .int i ∧ k (.int (f i)) B1) : We K E e (tUn (rU fun i => V.int (f i)) ta) ρ B k :=
  we_un (h.imp fun a B1 ⟨i, ea, hk⟩ x H G Q s r xo q => by
    subst ea
    exact ⟨i, r, q _ _ _ _ _ hk (Ext.refl s) rfl⟩)
theorem wa_nil {k : KL} (h : k [] B) : Wa K E e tNil ρ B k := fun σ H G Q s en x q => q _ _ _ _ _ h (Ext.refl s) rfl
theorem wa_cons {k : KL} (h : We K E e ta ρ B fun a B1 => Wa K E e t ρ B1 fun ds B2 => k (a :: ds) B2) : Wa K E e (tCons ta t) ρ B k := fun σ H G Q s en x q =>
  h σ H G _ s en x fun a v B1 G1 H1 h1 e1 r1 => h1 σ H1 G1 _ e1.sub (en.mono e1.le) (x.ext e1) fun ds vs B2 G2 H2 h2 e2 r2 => q _ _ _ _ _ h2 (e1.trans e2) ⟨v, vs, rfl, r1.mono e2.le, r2⟩
theorem we_tup (h : Wa K E e t ρ B fun ds B1 => ds.length ≤ sizeLine ∧ k (.tup ds) B1) : We K E e (tTup t) ρ B k := fun σ H G Q s en x q =>
  h σ H G _ s en x fun ds vs B1 G1 H1 ⟨h0, h1⟩ e1 r1 => ⟨by rw [← r1.length]; exact h0, fun p np => q _ _ _ _ _ h1 (e1.trans (Ext.new e1.sub np)) ⟨p, vs, rfl, SqT.of upd_same, r1.mono (Ext.new (B := B1) e1.sub np).le⟩⟩
theorem we_lst (h : Wa K E e t ρ B fun ds B1 => ds.length ≤ sizeLine ∧ k (.lst ds) B1) : We K E e (tLst t) ρ B k := fun σ H G Q s en x q =>
  h σ H G _ s en x fun ds vs B1 G1 H1 ⟨h0, h1⟩ e1 r1 => ⟨by rw [← r1.length]; exact h0, fun p np => q _ _ _ _ _ h1 (e1.trans (Ext.new e1.sub np)) ⟨p, vs, rfl, upd_same, r1.mono (Ext.new (B := B1) e1.sub np).le⟩⟩
theorem we_fld {f : Str} (h : We K E e ta ρ B fun d B1 => ∃ C ns ds d', d = .ins C ns ds ∧ Cls K C ∧ NoAttr K C f ∧ (ns.zip ds).lookup f = some d' ∧ k d' B1) : We K E e (tFld K ta f) ρ B k := fun σ H G Q s en x q =>
  h σ H G _ s en x fun d v B1 G1 H1 ⟨C, ns, ds, d', ed, c, n, l, h1⟩ e1 r1 => by
    subst ed
    obtain ⟨a, dx, vs, rfl, ha, hl, hr⟩ := r1
    have z : ∀ (ns : List Str) (ds : List D) (vs : List V), RepL K G1 B1 ds vs → (ns.zip ds).lookup f = some d' → ∃ v, (ns.zip vs).lookup f = some v ∧ Rep K G1 B1 d' v := by
      intro ns
      induction ns with
      | nil => intro ds vs _ h; simp at h
      | cons n r ih =>
        intro ds vs hr h
        cases ds with
        | nil => simp at h
        | cons d0 ds =>
          obtain ⟨v0, vr, rfl, h0, h1⟩ := hr
          rw [List.zip_cons_cons, List.lookup_cons] at h ⊢
          cases hq : (f == n) with
          | true => rw [hq] at h; exact ⟨v0, rfl, by cases h; exact h0⟩
          | false => rw [hq] at h; exact ih ds vr h1 h
    obtain ⟨v, lv, rv⟩ := z ns ds vs hr l
    exact ⟨a, C, dx, _, v, rfl, e1.sub _ _ ha, c, n, lv, q _ _ _ _ _ h1 e1 rv⟩
theorem we_ifE {c : TT} (h : Wt K E e c ρ B fun b B1 => (b = true → We K E e ta ρ B1 k) ∧ (b = false → We K E e tb ρ B1 k)) : We K E e (tIf c ta tb) ρ B k := fun σ H G Q s en x q =>
  h σ H G _ s en x fun b B1 G1 H1 h1 e1 => by
    cases b with
    | true => exact h1.1 rfl σ H1 G1 Q e1.sub (en.mono e1.le) (x.ext e1) (q.ext e1)
    | false => exact h1.2 rfl σ H1 G1 Q e1.sub (en.mono e1.le) (x.ext e1) (q.ext e1)
theorem we_and (h : We K E e ta ρ B fun d B1 => ∃ b, d = .bl b ∧ (b = true → We K E e tb ρ B1 k) ∧ (b = false → k (.bl false) B1)) : We K E e (tAndV ta tb) ρ B k := fun σ H G Q s en x q =>
  h σ H G _ s en x fun d v B1 G1 H1 ⟨b, ed, h1, h2⟩ e1 r1 => by
    subst ed
    refine ⟨b, r1, ?_⟩
    cases b with
    | true => exact h1 rfl σ H1 G1 Q e1.sub (en.mono e1.le) (x.ext e1) (q.ext e1)
    | false => exact q _ _ _ _ _ (h2 rfl) e1 rfl
theorem we_or (h : We K E e ta ρ B fun d B1 => ∃ b, d = .bl b ∧ (b = true → k (.bl true) B1) ∧ (b = false → We K E e tb ρ B1 k)) : We K E e (tOrV ta tb) ρ B k := fun σ H G Q s en x q =>
  h σ H G _ s en x fun d v B1 G1 H1 ⟨b, ed, h1, h2⟩ e1 r1 => by
    subst ed
    refine ⟨b, r1, ?_⟩
    cases b with
    | true => exact q _ _ _ _ _ (h1 rfl) e1 rfl
    | false => exact h2 rfl σ H1 G1 Q e1.sub (en.mono e1.le) (x.ext e1) (q.ext e1)
def isNon : D → Bool
  | .non => true
  | .val v => decide (v = .non)
  | .at_ _ d => isNon d
  | .tb d => isNon d
  | _ => false
theorem Rep.isNon {G : Hp} {B : Int} : ∀ {d : D} {v : V}, Rep K G B d v → decide (v = V.non) = isNon d
  | .non, _, h => by rw [show _ = _ from h]; rfl
  | .bl _, _, h => by rw [show _ = _ from h]; rfl
  | .int _, _, h => by rw [show _ = _ from h]; rfl
  | .str _, _, h => by rw [show _ = _ from h]; rfl
  | .tup _, _, ⟨a, vs, e, _⟩ => by rw [e]; rfl
  | .lst _, _, ⟨a, vs, e, _⟩ => by rw [e]; rfl
  | .ins _ _ _, _, ⟨a, dx, vs, e, _⟩ => by rw [e]; rfl
  | .pen _ _, _, ⟨_, a, _, _, _, _, e, _⟩ => by rw [e]; rfl
  | .scr _, _, ⟨_, a, e, _⟩ => by rw [e]; rfl
  | .lam _ _, _, ⟨f, d, e, _⟩ => by rw [e]; rfl
  | .at_ _ d, _, ⟨_, h⟩ => Rep.isNon (d := d) h
  | .tb d, _, ⟨_, h⟩ => Rep.isNon (d := d) h
  | .edk, _, ⟨a, e, _⟩ => by rw [e]; rfl
  | .kt _, _, ⟨a, e, _⟩ => by rw [e]; rfl
  | .dt _ _ _, _, ⟨a, vs, e, _⟩ => by rw [e]; rfl
  | .dk _ _, _, ⟨a, vs, e, _⟩ => by rw [e]; rfl
  | .val _, _, h => by rw [show _ = _ from h]; rfl
theorem we_isN (h : We K E e ta ρ B fun d B1 => k (.bl (isNon d)) B1) : We K E e (tIsN ta) ρ B k := fun σ H G Q s en x q =>
  h σ H G _ s en x fun d v B1 G1 H1 h1 e1 r1 => by
    rw [r1.isNon]
    exact q _ _ _ _ _ h1 e1 rfl
theorem we_notN (h : We K E e ta ρ B fun d B1 => k (.bl (!isNon d)) B1) : We K E e (tNotN ta) ρ B k := fun σ H G Q s en x q =>
  h σ H G _ s en x fun d v B1 G1 H1 h1 e1 r1 => by
    rw [r1.isNon]
    exact q _ _ _ _ _ h1 e1 rfl
variable {kb : Bool → Int → Prop} {c d : TT}
theorem wt_val (h : We K E e ta ρ B fun d B1 => ∃ b, d = .bl b ∧ kb b B1) : Wt K E e (tB ta) ρ B kb := fun σ H G Q s en x q =>
  h σ H G _ s en x fun d v B1 G1 H1 ⟨b, ed, h1⟩ e1 r1 => by
    subst ed
    exact ⟨b, r1, q _ _ _ _ h1 e1⟩
theorem wt_test (h : We K E e ta ρ B fun d B1 => ∃ b, d = .bl b ∧ kb b B1) : Wt K E e (tTest ta) ρ B kb := fun σ H G Q s en x q =>
  h σ H G _ s en x fun d v B1 G1 H1 ⟨b, ed, h1⟩ e1 r1 => by
    subst ed
    exact ⟨b, r1, q _ _ _ _ h1 e1⟩
theorem wt_not (h : Wt K E e c ρ B fun b B1 => kb (!b) B1) : Wt K E e (tNot c) ρ B kb := fun σ H G Q s en x q =>
  h σ H G _ s en x fun b B1 G1 H1 h1 e1 => q _ _ _ _ h1 e1
theorem wt_and (h : Wt K E e c ρ B fun b B1 => (b = true → Wt K E e d ρ B1 kb) ∧ (b = false → kb false B1)) : Wt K E e (tAnd c d) ρ B kb := fun σ H G Q s en x q =>
  h σ H G _ s en x fun b B1 G1 H1 h1 e1 => by
    cases b with
    | true => exact h1.1 rfl σ H1 G1 Q e1.sub (en.mono e1.le) (x.ext e1) fun b B2 G2 H2 h2 e2 => q _ _ _ _ h2 (e1.trans e2)
    | false => exact q _ _ _ _ (h1.2 rfl) e1
theorem wt_or (h : Wt K E e c ρ B fun b B1 => (b = true → kb true B1) ∧ (b = false → Wt K E e d ρ B1 kb)) : Wt K E e (tOr c d) ρ B kb := fun σ H G Q s en x q =>
  h σ H G _ s en x fun b B1 G1 H1 h1 e1 => by
    cases b with
    | true => exact q _ _ _ _ (h1.1 rfl) e1
    | false => exact h1.2 rfl σ H1 G1 Q e1.sub (en.mono e1.le) (x.ext e1) fun b B2 G2 H2 h2 e2 => q _ _ _ _ h2 (e1.trans e2)
variable {ts us : TS}
theorem ws_ret (h : We K E e ta ρ B κ.rt) : Ws K E e (tRet ta) ρ B κ := fun σ H G Dn s en x q => h σ H G _ s en x q.rt
theorem ws_next (h : κ.nx ρ B) : Ws K E e tNext ρ B κ := fun σ H G Dn s en x q => q.nx _ _ _ _ _ h (Ext.refl s) en
theorem ws_cont (h : κ.ct ρ B) : Ws K E e tCont ρ B κ := fun σ H G Dn s en x q => q.ct _ _ _ _ _ h (Ext.refl s) en
theorem ws_seq (h : Ws K E e ts ρ B { κ with nx := fun ρ' B' => Ws K E e us ρ' B' κ }) : Ws K E e (tSeq ts us) ρ B κ := fun σ H G Dn s en x q =>
  h σ H G _ s en x ⟨fun ρ' σ' B' G' H' h1 e1 en1 => h1 σ' H' G' Dn e1.sub en1 (x.ext e1) (q.ext e1), q.rt, q.bk, q.ct⟩
theorem ws_drop (h : We K E e ta ρ B fun _ B1 => κ.nx ρ B1) : Ws K E e (tDrop ta) ρ B κ := fun σ H G Dn s en x q =>
  h σ H G _ s en x fun d v B1 G1 H1 h1 e1 r1 => q.nx _ _ _ _ _ h1 e1 (en.mono e1.le)
theorem ws_if (h : Wt K E e c ρ B fun b B1 => (b = true → Ws K E e ts ρ B1 κ) ∧ (b = false → Ws K E e us ρ B1 κ)) : Ws K E e (tIfS c ts us) ρ B κ := fun σ H G Dn s en x q =>
  h σ H G _ s en x fun b B1 G1 H1 h1 e1 => by
    cases b with
    | true => exact h1.1 rfl σ H1 G1 Dn e1.sub (en.mono e1.le) (x.ext e1) (q.ext e1)
    | false => exact h1.2 rfl σ H1 G1 Dn e1.sub (en.mono e1.le) (x.ext e1) (q.ext e1)
theorem ws_set {i : Nat} (h : We K E e ta ρ B fun d B1 => κ.nx (ρ.set i (some d)) B1) : Ws K E e (tAsg ta (gName i)) ρ B κ := fun σ H G Dn s en x q =>
  h σ H G _ s en x fun d v B1 G1 H1 h1 e1 r1 => q.nx _ _ _ _ _ h1 e1 (EnvR.set r1 i (en.mono e1.le))
theorem ws_asg {g : TG} (h : We K E e ta ρ B fun d B1 => Wg K g d ρ B1 κ.nx) : Ws K E e (tAsg ta g) ρ B κ := fun σ H G Dn s en x q =>
  h σ H G _ s en x fun d v B1 G1 H1 h1 e1 r1 => h1 v σ H1 G1 _ e1.sub (en.mono e1.le) r1 (q.nx.ext e1)
theorem ws_par {i j : Nat} (h : Wa K E e t ρ B fun ds B1 => ∃ a b, ds = [a, b] ∧ κ.nx ((ρ.set i (some a)).set j (some b)) B1) : Ws K E e (tPar i j t) ρ B κ := fun σ H G Dn s en x q =>
  h σ H G _ s en x fun ds vs B1 G1 H1 ⟨a, b, ed, h1⟩ e1 r1 => by
    subst ed
    obtain ⟨v, _, rfl, ra, u, _, rfl, rb, rfl⟩ := r1
    exact ⟨v, u, rfl, q.nx _ _ _ _ _ h1 e1 (EnvR.set rb j (EnvR.set ra i (en.mono e1.le)))⟩
theorem ws_par3 {i j l : Nat} (h : Wa K E e t ρ B fun ds B1 => ∃ a b c, ds = [a, b, c] ∧ κ.nx (((ρ.set i (some a)).set j (some b)).set l (some c)) B1) : Ws K E e (L2.tPar3 i j l t) ρ B κ := fun σ H G Dn s en x q =>
  h σ H G _ s en x fun ds vs B1 G1 H1 ⟨a, b, c, ed, h1⟩ e1 r1 => by
    subst ed
    obtain ⟨v, _, rfl, ra, u, _, rfl, rb, w, _, rfl, rc, rfl⟩ := r1
    exact ⟨v, u, w, rfl, q.nx _ _ _ _ _ h1 e1 (EnvR.set rc l (EnvR.set rb j (EnvR.set ra i (en.mono e1.le))))⟩
theorem wg_name {i : Nat} {d : D} {k : KE'} (h : k (ρ.set i (some d)) B) : Wg K (gName i) d ρ B k := fun v σ H G Q s en r q => q _ _ _ _ _ h (Ext.refl s) (EnvR.set r i en)
theorem wgs_nil {k : KE'} (h : k ρ B) : Wgs K gNil [] ρ B k := fun vs σ H G Q s en r q => ⟨r, q _ _ _ _ _ h (Ext.refl s) en⟩
theorem wgs_cons {g : TG} {gs : TGs} {d : D} {ds : List D} {k : KE'} (h : Wg K g d ρ B fun ρ1 B1 => Wgs K gs ds ρ1 B1 k) : Wgs K (gCons g gs) (d :: ds) ρ B k := fun vs σ H G Q s en r q => by
  obtain ⟨v, w, rfl, r1, r2⟩ := r
  exact ⟨v, w, rfl, h v σ H G _ s en r1 fun ρ1 σ1 B1 G1 H1 h1 e1 en1 => h1 w σ1 H1 G1 Q e1.sub en1 (r2.mono e1.le) (q.ext e1)⟩
theorem wg_tup {n : Nat} {gs : TGs} {ds : List D} {k : KE'} (hn : ds.length = n) (h : Wgs K gs ds ρ B k) : Wg K (gTup K n gs) (.tup ds) ρ B k := fun v σ H G Q s en r q => by
  obtain ⟨a, vs, rfl, ha, hr⟩ := r
  exact ⟨a, vs, rfl, (Le.of_sub (B := B) (B' := B) s (Int.le_refl _)).seqT ha, by rw [← hr.length]; exact hn, h vs σ H G Q s en hr q⟩
end
end AW

set_option linter.all false
set_option maxRecDepth 100000
set_option maxHeartbeats 4000000
namespace AW
open PySem PySem.Spec PyProof.Rows L2
variable [Tbs]
abbrev Pr := List D → Int → KD → EW → Prop
def noE : EW := fun _ _ _ => False
def spD (K : PySem.W.Frag) (pr : Pr) : Sp := fun vs H Q E => ∃ G ds B k e, Sub G H ∧ RepL K G B ds vs ∧ pr ds B k e ∧ KOk K k Q G H B ∧ XOk K E e G H B
theorem XOk.no {K : PySem.W.Frag} {E : XK} {G H : Hp} {B : Int} : XOk K E noE G H B := fun _ _ _ _ _ h => h.elim
theorem spD_len {K : PySem.W.Frag} {pr : Pr} {n : Nat} (h : ∀ ds B k e, pr ds B k e → ds.length = n) : ∀ vs H Q E, spD K pr vs H Q E → vs.length = n := fun vs H Q E ⟨G, ds, B, k, e, _, r, p, _⟩ => by
  rw [← r.length]
  exact h _ _ _ _ p
section
variable {K : PySem.W.Frag} {E E' : XK} {e : EW} {ρ : List (Option D)} {B : Int} {k : KD} {κ : KS} {ta tb : TE} {t : TA} {pr : Pr}
theorem we_call (h : Wa K E e t ρ B fun ds B1 => pr ds B1 k noE) : We K E e (tCall (spD K pr) [] E' t) ρ B k := fun σ H G Q s en x q =>
  h σ H G _ s en x fun ds vs B1 G1 H1 h1 e1 r1 => by
    show spD K pr (vs ++ []) H1 Q E'
    rw [List.append_nil]
    exact ⟨G1, ds, B1, k, noE, e1.sub, r1, h1, q.ext e1, XOk.no⟩
theorem we_callE (h : Wa K E e t ρ B fun ds B1 => pr ds B1 k e) : We K E e (tCall (spD K pr) [] E t) ρ B k := fun σ H G Q s en x q =>
  h σ H G _ s en x fun ds vs B1 G1 H1 h1 e1 r1 => by
    show spD K pr (vs ++ []) H1 Q E
    rw [List.append_nil]
    exact ⟨G1, ds, B1, k, e, e1.sub, r1, h1, q.ext e1, x.ext e1⟩
theorem lookup_zip_none {m : Str} : ∀ {ns : List Str} {vs : List V}, (∀ n ∈ ns, (m == n) = false) → (ns.zip vs).lookup m = none
  | [], _, _ => by simp
  | n :: ns, [], _ => by simp
  | n :: ns, v :: vs, h => by
    rw [List.zip_cons_cons, List.lookup_cons, h n (List.mem_cons_self ..)]
    exact lookup_zip_none fun q hq => h q (List.mem_cons_of_mem _ hq)
theorem we_meth {C : Addr} {m : Str} (h : We K E e ta ρ B fun d B1 => ∃ ns fs, d = .ins C ns fs ∧ (∀ n ∈ ns, (m == n) = false) ∧ Wa K E e t ρ B1 fun ds B2 => pr (d :: ds) B2 k noE) : We K E e (tMeth C m (spD K pr) [] E' ta t) ρ B k := fun σ H G Q s en x q =>
  h σ H G _ s en x fun d v B1 G1 H1 ⟨ns, fs, ed, nm, h1⟩ e1 r1 => by
    subst ed
    obtain ⟨a, dx, vs, rfl, ha, hl, hr⟩ := id r1
    refine ⟨a, dx, _, rfl, e1.sub _ _ ha, lookup_zip_none nm, ?_⟩
    refine h1 σ H1 G1 _ e1.sub (en.mono e1.le) (x.ext e1) fun ds ws B2 G2 H2 h2 e2 r2 => ?_
    show spD K pr (.ref a :: (ws ++ [])) H2 Q E'
    rw [List.append_nil]
    exact ⟨G2, .ins C ns fs :: ds, B2, k, noE, e2.sub, ⟨_, _, rfl, r1.mono e2.le, r2⟩, h2, (q.ext e1).ext e2, XOk.no⟩
theorem we_methE {C : Addr} {m : Str} (h : We K E e ta ρ B fun d B1 => ∃ ns fs, d = .ins C ns fs ∧ (∀ n ∈ ns, (m == n) = false) ∧ Wa K E e t ρ B1 fun ds B2 => pr (d :: ds) B2 k e) : We K E e (tMeth C m (spD K pr) [] E ta t) ρ B k := fun σ H G Q s en x q =>
  h σ H G _ s en x fun d v B1 G1 H1 ⟨ns, fs, ed, nm, h1⟩ e1 r1 => by
    subst ed
    obtain ⟨a, dx, vs, rfl, ha, hl, hr⟩ := id r1
    refine ⟨a, dx, _, rfl, e1.sub _ _ ha, lookup_zip_none nm, ?_⟩
    refine h1 σ H1 G1 _ e1.sub (en.mono e1.le) (x.ext e1) fun ds ws B2 G2 H2 h2 e2 r2 => ?_
    show spD K pr (.ref a :: (ws ++ [])) H2 Q E
    rw [List.append_nil]
    exact ⟨G2, .ins C ns fs :: ds, B2, k, e, e2.sub, ⟨_, _, rfl, r1.mono e2.le, r2⟩, h2, (q.ext e1).ext e2, (x.ext e1).ext e2⟩
/-- the body runs -/
theorem run_body {N : List Str} {ts : TS} {G H : Hp} {ds : List D} {vs : List V} {Q : VK} (hs : Sub G H) (hr : RepL K G B ds vs) (hk : KOk K k Q G H B) (hx : XOk K E e G H B) (hN : startD N ds = ρ) (h : Ws K E e ts ρ B { nx := fun _ B' => k .non B', rt := k }) :
    ts { nx := fun _ H' => Q .non H', rt := Q } (L2.start N vs) H := by
  subst hN
  refine h _ H G _ hs ?_ hx ⟨fun ρ' σ' B' G' H' h1 e1 _ => hk _ _ _ _ _ h1 e1 rfl, hk, fun _ _ _ _ _ h => h.elim, fun _ _ _ _ _ h => h.elim⟩
  unfold startD L2.start
  rw [hr.length]
  exact EnvR.of_vals _ hr
/-- an __init__'s promise: from the arguments, the fields -/
def spI (K : PySem.W.Frag) (C : Addr) (ns : List Str) (pr : List D → Int → (List D → Int → Prop) → EW → Prop) : Sp := fun vs H Q E => ∃ p dx ws G ds B k e, vs = .ref p :: ws ∧ H p = some (.ins C dx []) ∧ G p = none ∧ G dx = none ∧ dx ≠ p ∧ H dx = some (.own p) ∧
  Sub G H ∧ RepL K G B ds ws ∧ pr ds B k e ∧
  (∀ fs us B' G' H', k fs B' → Le G B G' B' → Sub G' H' → (∀ a o, H a = some o → G a = none → a ≠ p → NTb o → H' a = some o ∧ G' a = none) → G' p = none → H' p = some (.ins C dx (ns.zip us)) → ns.length = us.length → RepL K G' B' fs us → Q .non H') ∧
  XOk K E e G H B
theorem we_make {C : Addr} {ns : List Str} {pi : List D → Int → (List D → Int → Prop) → EW → Prop} (h : Wa K E e t ρ B fun ds B1 => pi ds B1 (fun fs B2 => k (.ins C ns fs) B2) noE) : We K E e (tMake C (spI K C ns pi) [] E' t) ρ B k := fun σ H G Q s en x q =>
  h σ H G _ s en x fun ds vs B1 G1 H1 h1 e1 r1 => by
    show ∀ p dx, H1 p = none → H1 dx = none → dx ≠ p → _
    intro p dx np nd ne
    rw [List.append_nil]
    have gp : G1 p = none := by
      cases z : G1 p with
      | none => rfl
      | some u => rw [e1.sub _ _ z] at np; cases np
    have gd : G1 dx = none := by
      cases z : G1 dx with
      | none => rfl
      | some u => rw [e1.sub _ _ z] at nd; cases nd
    refine ⟨p, dx, vs, G1, ds, B1, _, noE, rfl, upd_same, gp, gd, ne, by rw [upd_ne ne, upd_same], fun a o z => ?_, r1, h1, fun fs us B2 G2 H2 hk le sub fr g2 h2 hl hr => ⟨rfl, ?_⟩, XOk.no⟩
    · have := e1.sub _ _ z
      rw [upd_ne (ne_of_none this np), upd_ne (ne_of_none this nd)]
      exact this
    · have e2 : Ext G H B (upd G2 p (.ins C dx (ns.zip us))) H2 B2 := by
        refine ⟨(e1.le.trans le).trans (Le.of_sub (fun a o z => by rw [upd_ne (ne_of_none z g2)]; exact z) (Int.le_refl _)), fun a o z => ?_, fun a o z n t => ?_⟩
        · by_cases hq : a = p
          · subst hq; rw [upd_same] at z; cases z; exact h2
          · rw [upd_ne hq] at z; exact sub _ _ z
        · obtain ⟨z1, z2⟩ := e1.fr a o z n t
          have hq : a ≠ p := ne_of_none z1 np
          obtain ⟨z3, z4⟩ := fr a o (by rw [upd_ne hq, upd_ne (ne_of_none z1 nd)]; exact z1) z2 hq t
          exact ⟨z3, by rw [upd_ne hq]; exact z4⟩
      exact q _ _ _ _ _ hk e2 ⟨p, dx, us, rfl, upd_same, hl, hr.mono (Le.of_sub (fun a o z => by rw [upd_ne (ne_of_none z g2)]; exact z) (Int.le_refl _))⟩
theorem ro_eqI {i j : Int} (h : k (.bl (decide (i = j))) B) : Ro K E e rEq (.int i) (.int j) B k := fun x y H G Q s r1 r2 _ q => by
  rw [show x = _ from r1, show y = _ from r2]
  have e1 : decide (V.int i = V.int j) = decide (i = j) := by
    by_cases z : i = j
    · subst z; simp
    · rw [decide_eq_false z, decide_eq_false fun w => z (V.int.inj w)]
  refine ⟨rfl, ?_⟩
  rw [e1]
  exact q _ _ _ _ _ h (Ext.refl s) rfl
theorem ro_neI {i j : Int} (h : k (.bl (!decide (i = j))) B) : Ro K E e rNe (.int i) (.int j) B k := fun x y H G Q s r1 r2 _ q => by
  rw [show x = _ from r1, show y = _ from r2]
  have e1 : decide (V.int i = V.int j) = decide (i = j) := by
    by_cases z : i = j
    · subst z; simp
    · rw [decide_eq_false z, decide_eq_false fun w => z (V.int.inj w)]
  refine ⟨rfl, ?_⟩
  rw [e1]
  exact q _ _ _ _ _ h (Ext.refl s) rfl
theorem ro_eqS {i j : Str} (h : k (.bl (decide (i = j))) B) : Ro K E e rEq (.str i) (.str j) B k := fun x y H G Q s r1 r2 _ q => by
  rw [show x = _ from r1, show y = _ from r2]
  have e1 : decide (V.str i = V.str j) = decide (i = j) := by
    by_cases z : i = j
    · subst z; simp
    · rw [decide_eq_false z, decide_eq_false fun w => z (V.str.inj w)]
  refine ⟨rfl, ?_⟩
  rw [e1]
  exact q _ _ _ _ _ h (Ext.refl s) rfl
theorem RepL.ixN {G : Hp} {ds : List D} {vs : List V} {i : Int} {d : D} (r : RepL K G B ds vs) (h : atI ds i = some d) : ∃ v, atI vs i = some v ∧ Rep K G B d v := by
  unfold atI at h ⊢
  rw [← r.length]
  cases z : L2.ixN ds.length i with
  | none => rw [z] at h; cases h
  | some j =>
    rw [z] at h
    exact r.get h
theorem ro_ixT {ds : List D} {i : Int} {d : D} (h : atI ds i = some d) (hk : k d B) : Ro K E e (rIxT K) (.tup ds) (.int i) B k := fun x y H G Q s r1 r2 _ q => by
  obtain ⟨a, vs, rfl, ha, hr⟩ := r1
  obtain ⟨v, h1, h2⟩ := hr.ixN h
  exact ⟨a, vs, i, v, rfl, r2, (Le.of_sub (B := B) (B' := B) s (Int.le_refl _)).seqT ha, h1, q _ _ _ _ _ hk (Ext.refl s) h2⟩
theorem ro_ixL {ds : List D} {i : Int} {d : D} (h : atI ds i = some d) (hk : k d B) : Ro K E e (rIxL K) (.lst ds) (.int i) B k := fun x y H G Q s r1 r2 _ q => by
  obtain ⟨a, vs, rfl, ha, hr⟩ := r1
  obtain ⟨v, h1, h2⟩ := hr.ixN h
  exact ⟨a, vs, i, v, rfl, r2, SqL.of (s _ _ ha), h1, q _ _ _ _ _ hk (Ext.refl s) h2⟩
theorem we_cb {r : List V → Hp → VK → Prop} (h : Wa K E e t ρ B fun ds B1 => ∀ vs H G Q, Sub G H → RepL K G B1 ds vs → KOk K k Q G H B1 → r vs H Q) : We K E e (tCB r t) ρ B k := fun σ H G Q s en x q =>
  h σ H G _ s en x fun ds vs B1 G1 H1 h1 e1 r1 => h1 vs H1 G1 Q e1.sub r1 (q.ext e1)
theorem cb_fun1 {f : Int → Int} {r : List V → Hp → VK → Prop} (hr : ∀ i H Q, Q (.int (f i)) H → r [.int i] H Q) {ds : List D} (h : ∃ i, ds = [.int i] ∧ k (.int (f i)) B) : ∀ vs H G Q, Sub G H → RepL K G B ds vs → KOk K k Q G H B → r vs H Q := fun vs H G Q s r1 q => by
  obtain ⟨i, rfl, hk⟩ := h
  obtain ⟨v, _, rfl, rv, rfl⟩ := r1
  rw [show v = _ from rv]
  exact hr i H Q (q _ _ _ _ _ hk (Ext.refl s) rfl)
theorem cb_fun2 {f : Int → Int → Int} {r : List V → Hp → VK → Prop} (hr : ∀ i j H Q, Q (.int (f i j)) H → r [.int i, .int j] H Q) {ds : List D} (h : ∃ i j, ds = [.int i, .int j] ∧ k (.int (f i j)) B) : ∀ vs H G Q, Sub G H → RepL K G B ds vs → KOk K k Q G H B → r vs H Q := fun vs H G Q s r1 q => by
  obtain ⟨i, j, rfl, hk⟩ := h
  obtain ⟨v, _, rfl, rv, u, _, rfl, ru, rfl⟩ := r1
  rw [show v = _ from rv, show u = _ from ru]
  exact hr i j H Q (q _ _ _ _ _ hk (Ext.refl s) rfl)
theorem we_intof (h : Wa K E e t ρ B fun ds B1 => ∃ i, ds = [.int i] ∧ k (.int i) B1) : We K E e (tCB (fun xs H Q => (∃ i, xs = [.int i] ∧ Q (.int i) H) ∨ ∃ k, xs = [.bl k] ∧ Q (.int (if k then 1 else 0)) H) t) ρ B k :=
  we_cb fun σ H G Q s en x q => h σ H G Q s en x fun ds vs B1 G1 H1 h1 e1 r1 => q ds vs B1 G1 H1 (cb_fun1 (f := fun i => i) (fun i H Q q => .inl ⟨i, rfl, q⟩) h1) e1 r1
theorem we_abs (h : Wa K E e t ρ B fun ds B1 => ∃ i, ds = [.int i] ∧ k (.int (if i < 0 then -i else i)) B1) : We K E e (tCB (fun xs H Q => ∃ i, xs = [.int i] ∧ Q (.int (if i < 0 then -i else i)) H) t) ρ B k :=
  we_cb fun σ H G Q s en x q => h σ H G Q s en x fun ds vs B1 G1 H1 h1 e1 r1 => q ds vs B1 G1 H1 (cb_fun1 (f := fun i => if i < 0 then -i else i) (fun i H Q q => ⟨i, rfl, q⟩) h1) e1 r1
theorem we_gcd (h : Wa K E e t ρ B fun ds B1 => ∃ i j, ds = [.int i, .int j] ∧ k (.int ((Nat.gcd i.natAbs j.natAbs : Nat) : Int)) B1) : We K E e (tCB rGcd t) ρ B k :=
  we_cb fun σ H G Q s en x q => h σ H G Q s en x fun ds vs B1 G1 H1 h1 e1 r1 => q ds vs B1 G1 H1 (cb_fun2 (f := fun i j => ((Nat.gcd i.natAbs j.natAbs : Nat) : Int)) (fun i j H Q q => ⟨i, j, rfl, q⟩) h1) e1 r1
theorem we_lenL (h : Wa K E e t ρ B fun ds B1 => ∃ xs, ds = [.lst xs] ∧ k (.int xs.length) B1) : We K E e (tCB (fun xs H Q => ∃ p ys, xs = [.ref p] ∧ (SqL K H p ys ∨ SqT K H p ys) ∧ Q (.int ys.length) H) t) ρ B k :=
  we_cb fun σ H G Q s en x q => h σ H G Q s en x fun ds vs B1 G1 H1 ⟨xs, ed, h1⟩ e1 r1 => q ds vs B1 G1 H1 (fun ws H2 G2 Q2 s2 r2 q2 => by
    subst ed
    obtain ⟨v, _, rfl, ⟨a, us, rfl, ha, hr⟩, rfl⟩ := r2
    exact ⟨a, us, rfl, .inl (SqL.of (s2 _ _ ha)), by rw [← hr.length]; exact q2 _ _ _ _ _ h1 (Ext.refl s2) rfl⟩) e1 r1
theorem we_lenT (h : Wa K E e t ρ B fun ds B1 => ∃ xs, ds = [.tup xs] ∧ k (.int xs.length) B1) : We K E e (tCB (fun xs H Q => ∃ p ys, xs = [.ref p] ∧ (SqL K H p ys ∨ SqT K H p ys) ∧ Q (.int ys.length) H) t) ρ B k :=
  we_cb fun σ H G Q s en x q => h σ H G Q s en x fun ds vs B1 G1 H1 ⟨xs, ed, h1⟩ e1 r1 => q ds vs B1 G1 H1 (fun ws H2 G2 Q2 s2 r2 q2 => by
    subst ed
    obtain ⟨v, _, rfl, ⟨a, us, rfl, ha, hr⟩, rfl⟩ := r2
    exact ⟨a, us, rfl, .inr ((Le.of_sub (B := B1) (B' := B1) s2 (Int.le_refl _)).seqT ha), by rw [← hr.length]; exact q2 _ _ _ _ _ h1 (Ext.refl s2) rfl⟩) e1 r1
variable {wi : TI} {g : TG} {tbody : TS} {tl : TE}
theorem ws_for_list (h : We K E e tl ρ B fun d B1 => ∃ ds, d = .lst ds ∧ ∃ I : Nat → KE', I 0 ρ B1 ∧ (∀ i x ρ' B', ds[i]? = some x → I i ρ' B' → Wg K g x ρ' B' fun ρ2 B2 => Ws K E e tbody ρ2 B2 { nx := I (i + 1), rt := κ.rt, bk := κ.nx, ct := I (i + 1) }) ∧ ∀ ρ' B', I ds.length ρ' B' → κ.nx ρ' B') :
    Ws K E e (tFor (iList K tl) g tbody) ρ B κ := fun σ H G Dn s en x q =>
  h σ H G _ s en x fun d v B1 G1 H1 ⟨ds, ed, I, i0, hs, hd⟩ e1 r1 => by
    subst ed
    obtain ⟨a, vs, rfl, ha, hr⟩ := r1
    refine ⟨a, rfl, ⟨vs, SqL.of (e1.sub _ _ ha)⟩, ?_⟩
    refine for_list (xs := vs) (fun i σ' H' => ∃ ρ' B' G', I i ρ' B' ∧ Ext G1 H1 B1 G' H' B' ∧ EnvR K G' B' ρ' σ') ⟨ρ, B1, G1, i0, Ext.refl e1.sub, en.mono e1.le⟩ (fun i σ' H' _ ⟨_, _, G', _, e2, _⟩ => SqL.of (e2.sub _ _ (e2.le.keep _ _ ha nopen_lst))) ?_ ?_
    · rintro i y σ' H' hi ⟨ρ', B', G', hI, e2, en2⟩
      obtain ⟨dx, hdx, rx⟩ := hr.get' hi
      refine hs i dx ρ' B' hdx hI y σ' H' G' _ e2.sub en2 (rx.mono e2.le) fun ρ2 σ2 B2 G2 H2 h2 e3 en3 => ?_
      have eA := e1.trans (e2.trans e3)
      exact h2 σ2 H2 G2 _ e3.sub en3 (x.ext eA) ⟨fun ρ3 σ3 B3 G3 H3 h3 e4 en4 => ⟨ρ3, B3, G3, h3, (e2.trans e3).trans e4, en4⟩, q.rt.ext eA, q.nx.ext eA, fun ρ3 σ3 B3 G3 H3 h3 e4 en4 => ⟨ρ3, B3, G3, h3, (e2.trans e3).trans e4, en4⟩⟩
    · rintro σ' H' ⟨ρ', B', G', hI, e2, en2⟩
      rw [← hr.length] at hI
      exact q.nx _ _ _ _ _ (hd _ _ hI) (e1.trans e2) en2
theorem ws_for_tup (h : We K E e tl ρ B fun d B1 => ∃ ds, d = .tup ds ∧ ∃ I : Nat → KE', I 0 ρ B1 ∧ (∀ i x ρ' B', ds[i]? = some x → I i ρ' B' → Wg K g x ρ' B' fun ρ2 B2 => Ws K E e tbody ρ2 B2 { nx := I (i + 1), rt := κ.rt, bk := κ.nx, ct := I (i + 1) }) ∧ ∀ ρ' B', I ds.length ρ' B' → κ.nx ρ' B') :
    Ws K E e (tFor (iTup K tl) g tbody) ρ B κ := fun σ H G Dn s en x q =>
  h σ H G _ s en x fun d v B1 G1 H1 ⟨ds, ed, I, i0, hs, hd⟩ e1 r1 => by
    subst ed
    obtain ⟨a, vs, rfl, ha, hr⟩ := r1
    refine ⟨a, rfl, ⟨vs, (Le.of_sub (B := B) (B' := B) e1.sub (Int.le_refl _)).seqT ha⟩, ?_⟩
    refine for_tup (xs := vs) (fun i σ' H' => ∃ ρ' B' G', I i ρ' B' ∧ Ext G1 H1 B1 G' H' B' ∧ EnvR K G' B' ρ' σ') ⟨ρ, B1, G1, i0, Ext.refl e1.sub, en.mono e1.le⟩ (fun i σ' H' _ ⟨_, _, G', _, e2, _⟩ => (Le.of_sub (B := B) (B' := B) e2.sub (Int.le_refl _)).seqT (e2.le.seqT ha)) ?_ ?_
    · rintro i y σ' H' hi ⟨ρ', B', G', hI, e2, en2⟩
      obtain ⟨dx, hdx, rx⟩ := hr.get' hi
      refine hs i dx ρ' B' hdx hI y σ' H' G' _ e2.sub en2 (rx.mono e2.le) fun ρ2 σ2 B2 G2 H2 h2 e3 en3 => ?_
      have eA := e1.trans (e2.trans e3)
      exact h2 σ2 H2 G2 _ e3.sub en3 (x.ext eA) ⟨fun ρ3 σ3 B3 G3 H3 h3 e4 en4 => ⟨ρ3, B3, G3, h3, (e2.trans e3).trans e4, en4⟩, q.rt.ext eA, q.nx.ext eA, fun ρ3 σ3 B3 G3 H3 h3 e4 en4 => ⟨ρ3, B3, G3, h3, (e2.trans e3).trans e4, en4⟩⟩
    · rintro σ' H' ⟨ρ', B', G', hI, e2, en2⟩
      rw [← hr.length] at hI
      exact q.nx _ _ _ _ _ (hd _ _ hI) (e1.trans e2) en2
theorem for_range_D {n : Nat} {G H : Hp} {σ : L2.St} {Dn : Ends} (s : Sub G H) (en : EnvR K G B ρ σ) (x : XOk K E e G H B) (q : EndsOk K κ Dn G H B) (I : Nat → KE') (lo : Int) (i0 : I 0 ρ B)
    (hs : ∀ (i : Nat) ρ' B', i < n → I i ρ' B' → Wg K g (.int (lo + i)) ρ' B' fun ρ2 B2 => Ws K E e tbody ρ2 B2 { nx := I (i + 1), rt := κ.rt, bk := κ.nx, ct := I (i + 1) }) (hd : ∀ ρ' B', I n ρ' B' → κ.nx ρ' B') :
    ∃ W : Nat → Nat → L2.St → Hp → Prop, (∃ m, W 0 m σ H) ∧ ∀ i m σ H, W i m σ H →
      ((Itr lo n).stop i H ∧ Dn.nx σ H) ∨ ((Itr lo n).go i H ∧ ∃ N : L2.St → Hp → Prop, (∀ σ' H', N σ' H' → ∃ m', m' < m ∧ W (i + 1) m' σ' H') ∧ ∀ x H', (Itr lo n).yld i H x H' → g x σ H' fun σ2 H2 => tbody { Dn with nx := N, ct := N, bk := Dn.nx } σ2 H2) := by
  refine for_range (fun i σ' H' => ∃ ρ' B' G', I i ρ' B' ∧ Ext G H B G' H' B' ∧ EnvR K G' B' ρ' σ') ⟨ρ, B, G, i0, Ext.refl s, en⟩ ?_ ?_
  · rintro i σ' H' hi ⟨ρ', B', G', hI, e2, en2⟩
    refine hs i ρ' B' hi hI _ σ' H' G' _ e2.sub en2 rfl fun ρ2 σ2 B2 G2 H2 h2 e3 en3 => ?_
    have eA := e2.trans e3
    exact h2 σ2 H2 G2 _ e3.sub en3 (x.ext eA) ⟨fun ρ3 σ3 B3 G3 H3 h3 e4 en4 => ⟨ρ3, B3, G3, h3, (e2.trans e3).trans e4, en4⟩, q.rt.ext eA, q.nx.ext eA, fun ρ3 σ3 B3 G3 H3 h3 e4 en4 => ⟨ρ3, B3, G3, h3, (e2.trans e3).trans e4, en4⟩⟩
  · rintro σ' H' ⟨ρ', B', G', hI, e2, en2⟩
    exact q.nx _ _ _ _ _ (hd _ _ hI) e2 en2
theorem ws_for_range1 (h : Wa K E e t ρ B fun ds B1 => ∃ j : Int, ds = [.int j] ∧ -(2 ^ 62) ≤ j ∧ j < 2 ^ 62 ∧ ∃ I : Nat → KE', I 0 ρ B1 ∧ (∀ (i : Nat) ρ' B', i < j.toNat → I i ρ' B' → Wg K g (.int (0 + i)) ρ' B' fun ρ2 B2 => Ws K E e tbody ρ2 B2 { nx := I (i + 1), rt := κ.rt, bk := κ.nx, ct := I (i + 1) }) ∧ ∀ ρ' B', I j.toNat ρ' B' → κ.nx ρ' B') :
    Ws K E e (tFor (iRng1 t) g tbody) ρ B κ := fun σ H G Dn s en x q =>
  h σ H G _ s en x fun ds vs B1 G1 H1 ⟨j, ed, j0, j1, I, i0, hs, hd⟩ e1 r1 => by
    subst ed
    obtain ⟨v, _, rfl, rv, rfl⟩ := r1
    rw [show v = _ from rv]
    exact ⟨j, rfl, j0, j1, for_range_D e1.sub (en.mono e1.le) (x.ext e1) (q.ext e1) I 0 i0 hs hd⟩
variable {tt : TT} {te : TE} {E1 : XK}
theorem wt_yes {kb : Bool → Int → Prop} (h : kb true B) : Wt K E e tYes ρ B kb := fun σ H G Q s en x q => q _ _ _ _ h (Ext.refl s)
/-- the state of a comprehension whose list stands at L -/
def LcOk (K : PySem.W.Frag) (I : List D → Int → Prop) (L : Addr) (G1 H1 : Hp) (B1 : Int) (H' : Hp) : Prop := ∃ out B' G' acc, I out B' ∧ Ext G1 H1 B1 G' H' B' ∧ G' L = none ∧ H' L = some (.lst acc) ∧ RepL K G' B' out acc
theorem lc_step {I : Nat → List D → Int → Prop} {L : Addr} {G1 H1 : Hp} {B1 : Int} {σ : L2.St} {sl i : Nat} {d : D} {v : V} {H' : Hp} (nL : H1 L = none) (sub1 : Sub G1 H1) (en : EnvR K G1 B1 ρ σ) (h : LcOk K (fun out B => out.length ≤ i ∧ I i out B) L G1 H1 B1 H') (hi : i < sizeLine) (rv : Rep K G1 B1 d v)
    (hs : ∀ out B', I i out B' → Wt K E1 noE tt ((ρ.set sl none).set sl (some d)) B' fun b B3 => (b = true → We K E1 noE te ((ρ.set sl none).set sl (some d)) B3 fun y B4 => I (i + 1) (out ++ [y]) B4) ∧ (b = false → I (i + 1) out B3)) :
    gName sl v (wipe σ [sl]) H' fun σ2 H2 => wipe σ2 [sl] = wipe σ [sl] ∧ tt σ2 H2 fun b H3 => if b = true then te σ2 H3 fun y H4 => ∃ acc, H4 L = some (.lst acc) ∧ acc.length < sizeLine ∧ LcOk K (fun out B => out.length ≤ i + 1 ∧ I (i + 1) out B) L G1 H1 B1 (upd H4 L (.lst (acc ++ [y]))) else LcOk K (fun out B => out.length ≤ i + 1 ∧ I (i + 1) out B) L G1 H1 B1 H3 := by
  obtain ⟨out, B', G', acc, ⟨hl, hI⟩, e2, gL, hL, hr⟩ := h
  refine ⟨?_, ?_⟩
  · show ((σ.set sl none).set sl (some v)).set sl none = σ.set sl none
    rw [List.set_set, List.set_set]
  · have en2 : EnvR K G' B' ((ρ.set sl none).set sl (some d)) ((σ.set sl none).set sl (some v)) := EnvR.set (rv.mono e2.le) sl (EnvR.wipe1 sl (en.mono e2.le))
    refine hs out B' hI _ H' G' _ e2.sub en2 XOk.no fun b B3 G3 H3 h3 e3 => ?_
    cases b with
    | true =>
      rw [if_pos rfl]
      refine h3.1 rfl _ H3 G3 _ e3.sub (en2.mono e3.le) XOk.no fun y w B4 G4 H4 h4 e4 r4 => ?_
      obtain ⟨z1, z2⟩ := (e3.trans e4).fr L _ hL gL ⟨(fun _ z => nomatch z), fun _ z => nomatch z⟩
      refine ⟨acc, z1, by rw [← hr.length]; omega, out ++ [y], B4, G4, acc ++ [w], ⟨by rw [List.length_append, List.length_singleton]; omega, h4⟩, ?_, z2, upd_same, (hr.mono (e3.trans e4).le).append ⟨w, [], rfl, r4, rfl⟩⟩
      have eA := e2.trans (e3.trans e4)
      refine ⟨eA.le, fun a o z => ?_, fun a o z n t => ?_⟩
      · have : a ≠ L := fun q => by rw [q, z2] at z; cases z
        rw [upd_ne this]; exact eA.sub _ _ z
      · have : a ≠ L := ne_of_none z nL
        rw [upd_ne this]
        exact eA.fr _ _ z n t
    | false =>
      rw [if_neg Bool.false_ne_true]
      obtain ⟨z1, z2⟩ := e3.fr L _ hL gL ⟨(fun _ z => nomatch z), fun _ z => nomatch z⟩
      exact ⟨out, B3, G3, acc, ⟨Nat.le_succ_of_le hl, h3.2 rfl⟩, e2.trans e3, z2, z1, hr.mono e3.le⟩
theorem lc_end {I : List D → Int → Prop} {L : Addr} {G H G1 H1 : Hp} {B1 : Int} {Q : VK} {H' : Hp} (e1 : Ext G H B G1 H1 B1) (nL : H1 L = none) (h : LcOk K I L G1 H1 B1 H') (hd : ∀ out B', I out B' → k (.lst out) B') (q : KOk K k Q G H B) : Q (.ref L) H' := by
  obtain ⟨out, B', G', acc, hI, e2, gL, hL, hr⟩ := h
  have le : Le G' B' (upd G' L (.lst acc)) B' := Le.of_sub (fun a o z => by rw [upd_ne (ne_of_none z gL)]; exact z) (Int.le_refl _)
  refine q (.lst out) _ B' (upd G' L (.lst acc)) H' (hd _ _ hI) (e1.trans ⟨e2.le.trans le, fun a o z => ?_, fun a o z n t => ?_⟩) ⟨L, acc, rfl, upd_same, hr.mono le⟩
  · by_cases w : a = L
    · subst w; rw [upd_same] at z; cases z; exact hL
    · rw [upd_ne w] at z; exact e2.sub _ _ z
  · have w : a ≠ L := ne_of_none z nL
    rw [upd_ne w]
    exact e2.fr _ _ z n t
theorem lc_start {I : List D → Int → Prop} {L : Addr} {G1 H1 : Hp} {B1 : Int} (s : Sub G1 H1) (nL : H1 L = none) (h : I [] B1) : LcOk K I L G1 H1 B1 (upd H1 L (.lst [])) := by
  have g : G1 L = none := by
    cases z : G1 L with
    | none => rfl
    | some u => rw [s _ _ z] at nL; cases nL
  exact ⟨[], B1, G1, [], h, Ext.hid s nL, g, upd_same, rfl⟩
theorem LcOk.kept {I : List D → Int → Prop} {L : Addr} {G1 H1 : Hp} {B1 : Int} {H' : Hp} {a : Addr} {o : HO} (h : LcOk K I L G1 H1 B1 H') (ha : G1 a = some o) (n : ¬ IsPen o) : H' a = some o := by
  obtain ⟨out, B', G', acc, hI, e2, gL, hL, hr⟩ := h
  exact e2.sub _ _ (e2.le.keep _ _ ha n)
theorem we_lc_list {sl : Nat} (h : We K E e tl ρ B fun d B1 => ∃ ds, d = .lst ds ∧ ds.length < sizeLine ∧ ∃ I : Nat → List D → Int → Prop, I 0 [] B1 ∧
    (∀ i x out B', ds[i]? = some x → I i out B' → Wt K E1 noE tt ((ρ.set sl none).set sl (some x)) B' fun b B3 => (b = true → We K E1 noE te ((ρ.set sl none).set sl (some x)) B3 fun y B4 => I (i + 1) (out ++ [y]) B4) ∧ (b = false → I (i + 1) out B3)) ∧
    ∀ out B', out.length ≤ ds.length → I ds.length out B' → k (.lst out) B') : We K E e (tLc (iList K tl) (gName sl) tt te [sl]) ρ B k := fun σ H G Q s en x q =>
  h σ H G _ s en x fun d v B1 G1 H1 ⟨ds, ed, dl, I, i0, hs, hd⟩ e1 r1 => by
    subst ed
    obtain ⟨a, vs, rfl, ha, hr⟩ := r1
    refine ⟨a, rfl, ⟨vs, SqL.of (e1.sub _ _ ha)⟩, fun L nL => ?_⟩
    refine lc_list (xs := vs) (fun i H' => LcOk K (fun out B => out.length ≤ i ∧ I i out B) L G1 H1 B1 H') (lc_start e1.sub nL ⟨Nat.le_refl _, i0⟩) (fun i H' _ z => SqL.of (z.kept ha nopen_lst)) ?_ ?_
    · intro i y H' hi hz
      obtain ⟨dx, hdx, rx⟩ := hr.get' hi
      have hlt : i < ds.length := (List.getElem?_eq_some_iff.mp hdx).1
      exact lc_step nL e1.sub (en.mono e1.le) hz (by omega) rx (fun out B' hI => hs i dx out B' hdx hI)
    · intro H' hz
      refine lc_end e1 nL hz (fun out B' hI => ?_) q
      rw [← hr.length] at hI
      exact hd out B' hI.1 hI.2
theorem we_lc_tup {sl : Nat} (h : We K E e tl ρ B fun d B1 => ∃ ds, d = .tup ds ∧ ds.length < sizeLine ∧ ∃ I : Nat → List D → Int → Prop, I 0 [] B1 ∧
    (∀ i x out B', ds[i]? = some x → I i out B' → Wt K E1 noE tt ((ρ.set sl none).set sl (some x)) B' fun b B3 => (b = true → We K E1 noE te ((ρ.set sl none).set sl (some x)) B3 fun y B4 => I (i + 1) (out ++ [y]) B4) ∧ (b = false → I (i + 1) out B3)) ∧
    ∀ out B', out.length ≤ ds.length → I ds.length out B' → k (.lst out) B') : We K E e (tLc (iTup K tl) (gName sl) tt te [sl]) ρ B k := fun σ H G Q s en x q =>
  h σ H G _ s en x fun d v B1 G1 H1 ⟨ds, ed, dl, I, i0, hs, hd⟩ e1 r1 => by
    subst ed
    obtain ⟨a, vs, rfl, ha, hr⟩ := r1
    refine ⟨a, rfl, ⟨vs, (Le.of_sub (B := B) (B' := B) e1.sub (Int.le_refl _)).seqT ha⟩, fun L nL => ?_⟩
    refine lc_tup (xs := vs) (fun i H' => LcOk K (fun out B => out.length ≤ i ∧ I i out B) L G1 H1 B1 H') (lc_start e1.sub nL ⟨Nat.le_refl _, i0⟩) (fun i H' _ z => by
      obtain ⟨out, B', G', acc, hI, e2, _⟩ := z
      exact (Le.of_sub (B := B) (B' := B) e2.sub (Int.le_refl _)).seqT (e2.le.seqT ha)) ?_ ?_
    · intro i y H' hi hz
      obtain ⟨dx, hdx, rx⟩ := hr.get' hi
      have hlt : i < ds.length := (List.getElem?_eq_some_iff.mp hdx).1
      exact lc_step nL e1.sub (en.mono e1.le) hz (by omega) rx (fun out B' hI => hs i dx out B' hdx hI)
    · intro H' hz
      refine lc_end e1 nL hz (fun out B' hI => ?_) q
      rw [← hr.length] at hI
      exact hd out B' hI.1 hI.2
end
end AW

set_option linter.all false
set_option maxRecDepth 100000
set_option maxHeartbeats 4000000
namespace AW
open PySem PySem.Spec PyProof.Rows L2
variable [Tbs]
def CDivG (_ j : Int) : Prop := j ≠ 0 ∧ j.natAbs.log2 < 9000
section
variable {X : Cx}
/-- // by any number of up to 9000 bits -/
theorem op_fdivG : OpR X (binaryOp .FloorDiv) (rI CDivG fun i j => .int (i.fdiv j)) := opI fun _ _ _ _ _ _ _ hc q => floordiv_int hc.1 q (.inl (PyProof.noPylong_of_log2 hc.2))
end
section
variable {K : PySem.W.Frag} {E E' : XK} {e : EW} {ρ : List (Option D)} {B : Int} {k : KD} {κ : KS} {ta tb : TE} {t : TA} {pr : Pr}
theorem we_meth0 {C : Addr} {m : Str} (h : We K E e ta ρ B fun d B1 => ∃ ns fs, d = .ins C ns fs ∧ (∀ n ∈ ns, (m == n) = false) ∧ pr [d] B1 k noE) : We K E e (tMeth C m (spD K pr) [] E' ta tNil) ρ B k :=
  we_meth (h.imp fun d B1 ⟨ns, fs, ed, nm, h1⟩ => ⟨ns, fs, ed, nm, wa_nil h1⟩)
theorem we_max2 (h : Wa K E e t ρ B fun ds B1 => ∃ i j, ds = [.int i, .int j] ∧ k (.int (if j > i then j else i)) B1) : We K E e (tCB (fun xs H Q => ∃ i j, xs = [.int i, .int j] ∧ Q (.int (if j > i then j else i)) H) t) ρ B k :=
  we_cb fun σ H G Q s en x q => h σ H G Q s en x fun ds vs B1 G1 H1 h1 e1 r1 => q ds vs B1 G1 H1 (cb_fun2 (f := fun i j => if j > i then j else i) (fun i j H Q q => ⟨i, j, rfl, q⟩) h1) e1 r1
theorem we_min2 (h : Wa K E e t ρ B fun ds B1 => ∃ i j, ds = [.int i, .int j] ∧ k (.int (if j < i then j else i)) B1) : We K E e (tCB (fun xs H Q => ∃ i j, xs = [.int i, .int j] ∧ Q (.int (if j < i then j else i)) H) t) ρ B k :=
  we_cb fun σ H G Q s en x q => h σ H G Q s en x fun ds vs B1 G1 H1 h1 e1 r1 => q ds vs B1 G1 H1 (cb_fun2 (f := fun i j => if j < i then j else i) (fun i j H Q q => ⟨i, j, rfl, q⟩) h1) e1 r1
/-- a statement, what holds behind it, the rest -/
theorem ws_cut {ts us : TS} (J : KE') (h1 : Ws K E e ts ρ B { κ with nx := J }) (h2 : ∀ ρ' B', J ρ' B' → Ws K E e us ρ' B' κ) : Ws K E e (tSeq ts us) ρ B κ :=
  ws_seq fun σ H G Dn s en x q => h1 σ H G Dn s en x ⟨fun ρ' σ' B' G' H' z => q.nx ρ' σ' B' G' H' (h2 ρ' B' z), q.rt, q.bk, q.ct⟩
end
abbrev t3 (x y a : Int) : D := .tup [.int x, .int y, .int a]
abbrev t2 (x y : Int) : D := .tup [.int x, .int y]
end AW

set_option linter.all false
set_option maxRecDepth 100000
set_option maxHeartbeats 4000000
namespace AW
open PySem PySem.Spec PyProof.Rows L2
variable [Tbs]
section
variable {K : PySem.W.Frag} {E E1 : XK} {e : EW} {ρ : List (Option D)} {B : Int} {k : KD} {tl te : TE} {sl : Nat}
theorem map_step {f : D → D} {ds : List D} {i : Nat} {x : D} (h : ds[i]? = some x) : (ds.map f).take i ++ [f x] = (ds.map f).take (i + 1) := by
  have hm : (ds.map f)[i]? = some (f x) := by rw [List.getElem?_map, h]; rfl
  rw [List.take_add_one, hm]
  rfl
/-- [f(x) for x in xs]: each element told, the pens left -/
theorem we_lc_mapT {f : D → D} (h : We K E e tl ρ B fun d B1 => ∃ ds, d = .tup ds ∧ ds.length < sizeLine ∧ (∀ x ∈ ds, ∀ k' : KD, k' (f x) B1 → We K E1 noE te ((ρ.set sl none).set sl (some x)) B1 k') ∧ k (.lst (ds.map f)) B1) :
    We K E e (tLc (iTup K tl) (gName sl) tYes te [sl]) ρ B k := we_lc_tup (E1 := E1) (h.imp fun d B1 ⟨ds, ed, hl, hs, hk⟩ => ⟨ds, ed, hl, fun i out B' => out = (ds.map f).take i ∧ B' = B1, ⟨rfl, rfl⟩, fun i x out B' hi ⟨eo, eB⟩ => wt_yes ⟨fun _ => by
      subst eB
      exact hs x (List.mem_of_getElem? hi) _ ⟨by rw [eo]; exact map_step hi, rfl⟩, fun h => nomatch h⟩, fun out B' _ ⟨eo, eB⟩ => by
      rw [eo, eB, List.take_of_length_le (by rw [List.length_map]; exact Nat.le_refl _)]
      exact hk⟩)
theorem we_lc_mapL {f : D → D} (h : We K E e tl ρ B fun d B1 => ∃ ds, d = .lst ds ∧ ds.length < sizeLine ∧ (∀ x ∈ ds, ∀ k' : KD, k' (f x) B1 → We K E1 noE te ((ρ.set sl none).set sl (some x)) B1 k') ∧ k (.lst (ds.map f)) B1) :
    We K E e (tLc (iList K tl) (gName sl) tYes te [sl]) ρ B k := we_lc_list (E1 := E1) (h.imp fun d B1 ⟨ds, ed, hl, hs, hk⟩ => ⟨ds, ed, hl, fun i out B' => out = (ds.map f).take i ∧ B' = B1, ⟨rfl, rfl⟩, fun i x out B' hi ⟨eo, eB⟩ => wt_yes ⟨fun _ => by
      subst eB
      exact hs x (List.mem_of_getElem? hi) _ ⟨by rw [eo]; exact map_step hi, rfl⟩, fun h => nomatch h⟩, fun out B' _ ⟨eo, eB⟩ => by
      rw [eo, eB, List.take_of_length_le (by rw [List.length_map]; exact Nat.le_refl _)]
      exact hk⟩)
end
/-- what the statement asks of the law -/
def spLaw (K : PySem.W.Frag) : Sp := fun vs H Q E => ∃ (a : Addr) (ns : List Int), vs = [.ref a] ∧ SqL K H a (ns.map V.int) ∧ ns.length ≤ 63 ∧ LamX.Tabs Tbs.T H ∧ ∀ H', Q (.bl true) H'
open Classical in
theorem spLaw_imp {K : PySem.W.Frag} {pr : Pr} (h : ∀ (ns : List Int) (k : KD), ns.length ≤ 63 → (∀ B', k (.bl true) B') → pr [.scr ns] 0 k noE) : ∀ vs H Q E, spLaw K vs H Q E → spD K pr vs H Q E := fun vs H Q E ⟨a, ns, ev, hS, hl, hT, kq⟩ => by
  subst ev
  let G : Hp := fun b => if b = a ∨ (∃ ps, H b = some (.tbl ps)) ∨ (∃ q, H b = some (LamX.CodeO b q)) then H b else none
  have gt : ∀ b, (b = a ∨ (∃ ps, H b = some (.tbl ps)) ∨ (∃ q, H b = some (LamX.CodeO b q))) → G b = H b := fun b h => if_pos h
  have ga : G a = H a := gt a (.inl rfl)
  refine ⟨G, [.scr ns], 0, fun d _ => d = .bl true, noE, fun b o z => ?_, ⟨_, [], rfl, ⟨fun p hp => ?_, a, rfl, ?_⟩, rfl⟩, h ns _ hl (fun _ => rfl), fun d v B' G' H' hd _ hr => ?_, XOk.no⟩
  · by_cases hb : b = a ∨ (∃ ps, H b = some (.tbl ps)) ∨ (∃ q, H b = some (LamX.CodeO b q))
    · rw [gt b hb] at z
      exact z
    · have z2 : G b = none := if_neg hb
      rw [z2] at z
      cases z
  · obtain ⟨ps, h1, h2, h3⟩ := hT p hp
    refine ⟨ps, by rw [gt _ (.inr (.inl ⟨ps, h1⟩))]; exact h1, h2, fun pos cv hc => ?_⟩
    obtain ⟨c, e1, e2⟩ := h3 pos cv hc
    exact ⟨c, e1, by rw [gt _ (.inr (.inr ⟨_, e2⟩))]; exact e2⟩
  · rcases hS with (hS | ⟨o, hS⟩) | hS
    · exact .inl (.inl (ga.trans hS))
    · exact .inl (.inr ⟨o, ga.trans hS⟩)
    · exact .inr hS
  · subst hd
    rw [show v = _ from hr]
    exact kq H'
end AW

set_option linter.all false
set_option maxRecDepth 100000
set_option maxHeartbeats 4000000
namespace AW
open PySem PySem.Spec PyProof.Rows L2 LamX
variable [Tbs]
section
variable {K : PySem.W.Frag} {E E' : XK} {e : EW} {ρ : List (Option D)} {B : Int} {k : KD} {κ : KS}
end
end AW

set_option linter.all false
set_option maxRecDepth 100000
set_option maxHeartbeats 4000000
namespace AW
open PySem PySem.Spec PyProof.Rows L2
variable [Tbs]
section
variable {K : PySem.W.Frag} {E E' : XK} {e : EW} {ρ : List (Option D)} {B : Int} {k : KD} {κ : KS} {ta tb : TE} {t : TA} {pr : Pr}
/-- all of them -/
theorem we_all (h : Wa K E e t ρ B fun ds B1 => ∃ bs : List Bool, ds = [.lst (bs.map D.bl)] ∧ k (.bl (bs.all id)) B1) : We K E e (tCB (rAll K) t) ρ B k :=
  we_cb fun σ H G Q s en x q => h σ H G Q s en x fun ds vs B1 G1 H1 ⟨bs, ed, hk⟩ e1 r1 => q ds vs B1 G1 H1 (fun ws H2 G2 Q2 s2 r2 q2 => by
    subst ed
    obtain ⟨v, _, rfl, ⟨a, us, rfl, ha, hr⟩, rfl⟩ := r2
    have z : ∀ (bs : List Bool) (us : List V), RepL K G2 B1 (bs.map D.bl) us → us = bs.map V.bl := by
      intro bs
      induction bs with
      | nil => intro us h; exact h
      | cons b r ih =>
        intro us h
        obtain ⟨v, w, rfl, h1, h2⟩ := h
        rw [show v = _ from h1, ih _ h2]
        rfl
    refine ⟨a, bs, rfl, ?_, q2 _ _ _ _ _ hk (Ext.refl s2) rfl⟩
    rw [← z bs us hr]
    exact SqL.of (s2 _ _ ha)) e1 r1
/-- a value with an address keeps it -/
def refD : D → Bool
  | .tup _ => true
  | .lst _ => true
  | .ins _ _ _ => true
  | .edk => true
  | _ => false
theorem Rep.refD {G : Hp} : ∀ {d : D} {v : V}, Rep K G B d v → AW.refD d = true → ∃ a, v = .ref a
  | .tup _, _, ⟨a, vs, e, _⟩, _ => ⟨a, e⟩
  | .lst _, _, ⟨a, vs, e, _⟩, _ => ⟨a, e⟩
  | .ins _ _ _, _, ⟨a, _, vs, e, _⟩, _ => ⟨a, e⟩
  | .non, _, _, o => nomatch o
  | .bl _, _, _, o => nomatch o
  | .int _, _, _, o => nomatch o
  | .str _, _, _, o => nomatch o
  | .pen _ _, _, _, o => nomatch o
  | .scr _, _, _, o => nomatch o
  | .val _, _, _, o => nomatch o
  | .lam _ _, _, _, o => nomatch o
  | .at_ _ _, _, _, o => nomatch o
  | .tb _, _, _, o => nomatch o
  | .edk, _, ⟨a, e, _⟩, _ => ⟨a, e⟩
  | .dk _ _, _, _, o => nomatch o
  | .kt _, _, _, o => nomatch o
  | .dt _ _ _, _, _, o => nomatch o
def seen (d d' : D) : Prop := d' = d ∧ AW.refD d = false ∨ (∃ a, d' = .at_ (.ref a) d) ∧ AW.refD d = true
def DSam : Eqv := fun x y _ => ∃ a, x = .ref a ∧ y = .ref a
def DOd : Eqv := fun x y H => DFlat x y H ∨ DSam x y H
inductive Alike : D → D → Prop where
  | non : Alike .non .non
  | bl (b : Bool) : Alike (.bl b) (.bl b)
  | int (i : Int) : Alike (.int i) (.int i)
  | str (x : Str) : Alike (.str x) (.str x)
  | at_ (a : Addr) (d d' : D) : Alike (.at_ (.ref a) d) (.at_ (.ref a) d')
theorem Alike.od {G H : Hp} {d d' : D} {v v' : V} (h : Alike d d') (r : Rep K G B d v) (r' : Rep K G B d' v') : DOd v v' H := by
  cases h with
  | non => rw [show v = _ from r, show v' = _ from r']; exact .inl ⟨rfl, rfl, rfl⟩
  | bl b => rw [show v = _ from r, show v' = _ from r']; exact .inl ⟨rfl, rfl, by cases b <;> rfl⟩
  | int i => rw [show v = _ from r, show v' = _ from r']; exact .inl ⟨rfl, rfl, by simp [eqV]⟩
  | str x => rw [show v = _ from r, show v' = _ from r']; exact .inl ⟨rfl, rfl, by simp [eqV]⟩
  | at_ a d d' => exact .inr ⟨a, r.1, r'.1⟩
inductive AlikeL : List D → List D → Prop where
  | nil : AlikeL [] []
  | cons {d d' : D} {ds ds' : List D} (h : Alike d d') (r : AlikeL ds ds') : AlikeL (d :: ds) (d' :: ds')
theorem AlikeL.len {ds ds' : List D} (h : AlikeL ds ds') : ds.length = ds'.length := by
  induction h with
  | nil => rfl
  | cons _ _ ih => rw [List.length_cons, List.length_cons, ih]
end
end AW

set_option linter.all false
set_option maxRecDepth 100000
set_option maxHeartbeats 4000000
namespace AW
open PySem PySem.Spec PyProof.Rows L2
variable [Tbs]
def tOr2E (t u : TE) : TE := fun σ H Q => t σ H Q ∨ u σ H Q
theorem pe_or2 {X : Cx} {e : Expr} {t u : TE} (h1 : PE X e t) (h2 : PE X e u) : PE X e (tOr2E t u) := ⟨fun pins s σ H Q I h => h.elim (h1.run pins s σ H Q I) (h2.run pins s σ H Q I)⟩
section
variable {K : PySem.W.Frag} {E E' E1 : XK} {e : EW} {ρ : List (Option D)} {B : Int} {k : KD} {κ : KS} {ta tb tl te : TE} {t : TA} {us : TS} {pr : Pr} {i sl : Nat} {ds : List D}
theorem we_orL (h : We K E e ta ρ B k) : We K E e (tOr2E ta tb) ρ B k := fun σ H G Q s en x q => .inl (h σ H G Q s en x q)
theorem we_orR (h : We K E e tb ρ B k) : We K E e (tOr2E ta tb) ρ B k := fun σ H G Q s en x q => .inr (h σ H G Q s en x q)
end
end AW

set_option linter.all false
set_option maxRecDepth 100000
set_option maxHeartbeats 4000000
namespace AW
open PySem PySem.Spec PyProof.Rows L2
variable [Tbs]
section
variable {K : PySem.W.Frag} {E E' E1 : XK} {e : EW} {ρ : List (Option D)} {B : Int} {k : KD} {κ : KS} {ta tb tl te ty : TE} {tt : TT} {t : TA} {us : TS} {pr : Pr} {i sl : Nat} {ds : List D}
/-- a text's letter -/
theorem ro_ixS {z : Str} {i : Int} {c : _} (hz : z.length ≤ sizeLine) (h : atI z.cps.toList i = some c) (hk : k (.str ⟨#[c]⟩) B) : Ro K E e rIxS (.str z) (.int i) B k := fun x y H G Q s r1 r2 _ q =>
  ⟨z, i, c, r1, r2, hz, h, q _ _ _ _ _ hk (Ext.refl s) rfl⟩
theorem ro_neB {i j : Bool} (h : k (.bl (!decide (i = j))) B) : Ro K E e rNe (.bl i) (.bl j) B k := fun x y H G Q s r1 r2 _ q => by
  rw [show x = _ from r1, show y = _ from r2]
  have e1 : decide (V.bl i = V.bl j) = decide (i = j) := by
    by_cases z : i = j
    · subst z; simp
    · rw [decide_eq_false z, decide_eq_false fun w => z (V.bl.inj w)]
  refine ⟨rfl, ?_⟩
  rw [e1]
  exact q _ _ _ _ _ h (Ext.refl s) rfl
theorem ro_eqB {i j : Bool} (h : k (.bl (decide (i = j))) B) : Ro K E e rEq (.bl i) (.bl j) B k := fun x y H G Q s r1 r2 _ q => by
  rw [show x = _ from r1, show y = _ from r2]
  have e1 : decide (V.bl i = V.bl j) = decide (i = j) := by
    by_cases z : i = j
    · subst z; simp
    · rw [decide_eq_false z, decide_eq_false fun w => z (V.bl.inj w)]
  refine ⟨rfl, ?_⟩
  rw [e1]
  exact q _ _ _ _ _ h (Ext.refl s) rfl
theorem we_lenS (h : Wa K E e t ρ B fun ds B1 => ∃ ns : List Int, ds = [.scr ns] ∧ k (.int ns.length) B1) : We K E e (tCB (fun xs H Q => ∃ p ys, xs = [.ref p] ∧ (SqL K H p ys ∨ SqT K H p ys) ∧ Q (.int ys.length) H) t) ρ B k :=
  we_cb fun σ H G Q s en x q => h σ H G Q s en x fun ds vs B1 G1 H1 ⟨ns, ed, h1⟩ e1 r1 => q ds vs B1 G1 H1 (fun ws H2 G2 Q2 s2 r2 q2 => by
    subst ed
    obtain ⟨v, _, rfl, ⟨_, a, rfl, ha⟩, rfl⟩ := r2
    exact ⟨a, _, rfl, .inl ((Le.of_sub (B := B1) (B' := B1) s2 (Int.le_refl _)).seqL ha), by rw [List.length_map]; exact q2 _ _ _ _ _ h1 (Ext.refl s2) rfl⟩) e1 r1
def lookD (l : List (Str × D)) (z : Str) : Option D := l.foldl (fun o kv => if kv.1 = z then some kv.2 else o) none
def Wps (K : PySem.W.Frag) (E : XK) (e : EW) (ρ : List (Option D)) : List (TE × TE) → Int → (List (Str × D) → Int → Prop) → Prop
  | [], B, k => k [] B
  | (tk, tv) :: r, B, k => We K E e tk ρ B fun a B1 => ∃ z, a = .str z ∧ We K E e tv ρ B1 fun d B2 => Wps K E e ρ r B2 fun l B3 => k ((z, d) :: l) B3
theorem wps_run : ∀ (trs : List (TE × TE)) {B : Int} {k : List (Str × D) → Int → Prop}, Wps K E e ρ trs B k → ∀ σ H G (Q : List (V × V) → Hp → Prop), Sub G H → EnvR K G B ρ σ → XOk K E e G H B →
    (∀ l (vs : List V) B' G' H', k l B' → Ext G H B G' H' B' → RepL K G' B' (l.map (·.2)) vs → Q ((l.map (·.1)).zip vs |>.map fun p => (V.str p.1, p.2)) H') → tPairs trs σ H Q
  | [], B, k, h, σ, H, G, Q, s, en, x, q => by
    have := q [] [] B G H h (Ext.refl s) rfl
    exact this
  | (tk, tv) :: r, B, k, h, σ, H, G, Q, s, en, x, q => by
    refine h σ H G _ s en x fun a v B1 G1 H1 ⟨z, ez, h1⟩ e1 r1 => ?_
    subst ez
    rw [show v = _ from r1]
    refine h1 σ H1 G1 _ e1.sub (en.mono e1.le) (x.ext e1) fun d w B2 G2 H2 h2 e2 r2 => ?_
    refine wps_run r h2 σ H2 G2 _ e2.sub ((en.mono e1.le).mono e2.le) ((x.ext e1).ext e2) fun l vs B3 G3 H3 hk e3 r3 => ?_
    exact q ((z, d) :: l) (w :: vs) B3 G3 H3 hk ((e1.trans e2).trans e3) ⟨w, vs, rfl, r2.mono e3.le, r3⟩
theorem look_merge {G : Hp} {B : Int} (z : Str) : ∀ (l : List (Str × D)) (vs : List V) (acc : List (Key × V)) (o : Option D), RepL K G B (l.map (·.2)) vs → (∀ d, o = some d → ∃ v, valV acc (Sum.inr z) = some v ∧ Rep K G B d v) →
    ∀ d, l.foldl (fun o kv => if kv.1 = z then some kv.2 else o) o = some d → ∃ v, valV (mergeK acc ((l.map (·.1)).zip vs |>.map fun p => ((Sum.inr p.1 : Key), p.2))) (Sum.inr z) = some v ∧ Rep K G B d v
  | [], vs, acc, o, hr, ho, d, h => by
    rw [show vs = _ from hr]
    exact ho d h
  | (y, d0) :: l, vs, acc, o, hr, ho, d, h => by
    obtain ⟨v, w, rfl, h1, h2⟩ := hr
    refine look_merge z l w (putK acc (Sum.inr y) v) (if y = z then some d0 else o) h2 (fun d1 e1 => ?_) d h
    rw [valV_put]
    by_cases hy : y = z
    · subst hy
      rw [if_pos rfl] at e1
      cases e1
      exact ⟨v, if_pos rfl, h1⟩
    · rw [if_neg hy] at e1
      obtain ⟨u, k1, k2⟩ := ho d1 e1
      refine ⟨u, ?_, k2⟩
      rw [if_neg (fun w => hy (Sum.inr.inj w).symm)]
      exact k1
theorem we_dsel {trs : List (TE × TE)} (h : Wps K E e ρ trs B fun l B1 => l.length ≤ 15 ∧ We K E e ty ρ B1 fun kd B2 => ∃ z d, kd = .str z ∧ lookD l z = some d ∧ k d B2) : We K E e (tDGet (tDisp trs) ty) ρ B k := fun σ H G Q s en x q => by
  intro p np
  have ex := Ext.hid (B := B) (o := .dK []) s np
  have gp : G p = none := by
    cases z : G p with
    | none => rfl
    | some u => rw [s _ _ z] at np; cases np
  refine wps_run trs h σ _ G _ ex.sub en (x.ext ex) fun l vs B1 G1 H1 ⟨hl, h1⟩ e1 r1 => ?_
  obtain ⟨z1, z2⟩ := e1.fr p _ upd_same gp ⟨(fun _ z => nomatch z), fun _ z => nomatch z⟩
  have hll : l.length = vs.length := by rw [← r1.length, List.length_map]
  refine ⟨z1, (l.map (·.1)).zip vs |>.map fun p => ((Sum.inr p.1 : Key), p.2), ?_, ?_, ?_⟩
  · rw [List.map_map]
    rfl
  · rw [List.length_map, List.length_zip, List.length_map, ← hll, Nat.min_self]
    exact hl
  · have eA : Ext G H B G1 (upd H1 p (.dK (mergeK [] ((l.map (·.1)).zip vs |>.map fun p => ((Sum.inr p.1 : Key), p.2))))) B1 := by
      have eB := ex.trans e1
      refine ⟨eB.le, fun a o z => ?_, fun a o z n t => ?_⟩
      · rw [upd_ne (ne_of_none z z2)]; exact e1.sub _ _ z
      · rw [upd_ne (ne_of_none z np)]; exact eB.fr _ _ z n t
    refine h1 σ _ G1 _ eA.sub (en.mono eA.le) (x.ext eA) fun kd v B2 G2 H2 ⟨z, d, ez, hz, hk⟩ e2 r2 => ?_
    subst ez
    rw [show v = _ from r2]
    obtain ⟨y1, y2⟩ := e2.fr p _ upd_same z2 ⟨(fun _ z => nomatch z), fun _ z => nomatch z⟩
    obtain ⟨v, w1, w2⟩ := look_merge (K := K) (G := G1) (B := B1) z l vs [] none r1 (fun d q => nomatch q) d hz
    exact ⟨p, v, rfl, by rw [← w1]; exact DGet.k (k := Sum.inr z) y1, q _ _ _ _ _ hk (eA.trans e2) (w2.mono e2.le)⟩
end
end AW

set_option linter.all false
set_option maxRecDepth 100000
set_option maxHeartbeats 4000000
namespace AW
open PySem PySem.Spec PyProof.Rows L2
variable [Tbs]
section
variable {K : PySem.W.Frag} {E E' : XK} {e : EW} {ρ : List (Option D)} {B : Int} {k : KD} {κ : KS} {ta tb tf : TE} {t : TA} {pr : Pr}
end
end AW

set_option linter.all false
set_option maxRecDepth 100000
set_option maxHeartbeats 4000000
namespace AW
open PySem PySem.Spec PyProof.Rows L2
variable [Tbs]
section
variable {K : PySem.W.Frag} {E E' : XK} {e : EW} {ρ : List (Option D)} {B : Int} {k : KD} {κ : KS} {ta tb tf : TE} {t : TA} {pr : Pr}
theorem ws_while {c : TT} {ts : TS} (I : Nat → KE') (m : Nat) (h0 : I m ρ B)
    (hs : ∀ n ρ' B', I n ρ' B' → Wt K E e c ρ' B' fun b B1 => (b = true → Ws K E e ts ρ' B1 { nx := fun ρ2 B2 => ∃ n', n' < n ∧ I n' ρ2 B2, rt := κ.rt, bk := κ.nx, ct := fun ρ2 B2 => ∃ n', n' < n ∧ I n' ρ2 B2 }) ∧ (b = false → κ.nx ρ' B1)) : Ws K E e (tWhile c ts) ρ B κ := fun σ H G Dn s en x q => by
  refine ⟨fun n σ' H' => ∃ ρ' B' G', I n ρ' B' ∧ Ext G H B G' H' B' ∧ EnvR K G' B' ρ' σ', ⟨m, ρ, B, G, h0, Ext.refl s, en⟩, ?_⟩
  rintro n σ' H' ⟨ρ', B', G', hI, e1, en1⟩
  refine hs n ρ' B' hI σ' H' G' _ e1.sub en1 (x.ext e1) fun b B2 G2 H2 hb e2 => ?_
  have eA := e1.trans e2
  cases b with
  | true =>
    rw [if_pos rfl]
    refine ⟨fun σ3 H3 => ∃ n', n' < n ∧ ∃ ρ' B' G', I n' ρ' B' ∧ Ext G H B G' H3 B' ∧ EnvR K G' B' ρ' σ3, fun _ _ z => z, ?_⟩
    refine hb.1 rfl σ' H2 G2 _ e2.sub (en1.mono e2.le) (x.ext eA) ⟨?_, q.rt.ext eA, q.nx.ext eA, ?_⟩
    · rintro ρ3 σ3 B3 G3 H3 ⟨n', l, h3⟩ e3 en3
      exact ⟨n', l, ρ3, B3, G3, h3, eA.trans e3, en3⟩
    · rintro ρ3 σ3 B3 G3 H3 ⟨n', l, h3⟩ e3 en3
      exact ⟨n', l, ρ3, B3, G3, h3, eA.trans e3, en3⟩
  | false =>
    rw [if_neg Bool.false_ne_true]
    exact q.nx _ _ _ _ _ (hb.2 rfl) eA (en1.mono e2.le)
end
end AW

set_option linter.all false
set_option maxRecDepth 100000
set_option maxHeartbeats 4000000
namespace AW
open PySem PySem.Spec PyProof.Rows L2
variable [Tbs]
theorem Wt.imp {K : PySem.W.Frag} {E : XK} {e : EW} {c : TT} {ρ : List (Option D)} {B : Int} {k k' : Bool → Int → Prop} (h : Wt K E e c ρ B k) (f : ∀ b B', k b B' → k' b B') : Wt K E e c ρ B k' :=
  fun σ H G Q s en x q => h σ H G Q s en x fun b B' G' H' hk => q b B' G' H' (f b B' hk)
end AW

set_option linter.all false
set_option maxRecDepth 100000
set_option maxHeartbeats 4000000
namespace AW
open PySem PySem.Spec PyProof.Rows L2 RZ
variable [Tbs]
section
abbrev ItzG (Sq : Hp → Addr → List V → Prop) (a b : Addr) : It :=
  ⟨fun i H => ∃ (xs ys : List V) (x y : V), Sq H a xs ∧ Sq H b ys ∧ xs[i]? = some x ∧ ys[i]? = some y,
    fun i H v H' => ∃ T x y, v = .ref T ∧ H T = none ∧ H' = upd H T (.tup [x, y]) ∧ (∀ xs, Sq H a xs → xs[i]? = some x) ∧ ∀ ys, Sq H b ys → ys[i]? = some y,
    fun i H => ∃ xs ys : List V, Sq H a xs ∧ Sq H b ys ∧ (xs.length ≤ i ∨ ys.length ≤ i)⟩
theorem lc_zip {Sq : Hp → Addr → List V → Prop} {a b : Addr} {xs ys : List V} (hl : xs.length = ys.length) {g : TG} {tt : TT} {te : TE} {vs : List Nat} {σ : L2.St} {H1 : Hp} {D : Addr} {Qd : Hp → Prop} (Pv : Nat → Hp → Prop) (h0 : Pv 0 (upd H1 D (.lst []))) (hq : ∀ i H, i ≤ xs.length → Pv i H → Sq H a xs ∧ Sq H b ys)
    (hs : ∀ i x y T H, xs[i]? = some x → ys[i]? = some y → Pv i H → H T = none → g (.ref T) (wipe σ vs) (upd H T (.tup [x, y])) fun σ2 H2 => wipe σ2 vs = wipe σ vs ∧ tt σ2 H2 fun b H3 =>
      if b = true then te σ2 H3 fun y H4 => ∃ acc, H4 D = some (.lst acc) ∧ acc.length < sizeLine ∧ Pv (i + 1) (upd H4 D (.lst (acc ++ [y]))) else Pv (i + 1) H3) (hd : ∀ H, Pv xs.length H → Qd H) :
    ∃ W : Nat → Nat → Hp → Prop, (∃ m, W 0 m (upd H1 D (.lst []))) ∧ ∀ i m H, W i m H →
      ((ItzG Sq a b).stop i H ∧ Qd H) ∨ ((ItzG Sq a b).go i H ∧ ∃ Nx : Hp → Prop, (∀ H', Nx H' → ∃ m', m' < m ∧ W (i + 1) m' H') ∧ ∀ x H', (ItzG Sq a b).yld i H x H' → g x (wipe σ vs) H' fun σ2 H2 => wipe σ2 vs = wipe σ vs ∧ tt σ2 H2 fun b H3 =>
        if b = true then te σ2 H3 fun y H4 => ∃ acc, H4 D = some (.lst acc) ∧ acc.length < sizeLine ∧ Nx (upd H4 D (.lst (acc ++ [y]))) else Nx H3) := by
  refine ⟨fun i m H => m = xs.length - i ∧ i ≤ xs.length ∧ Pv i H, ⟨xs.length, rfl, Nat.zero_le _, h0⟩, ?_⟩
  rintro i m H ⟨rfl, hi, p⟩
  obtain ⟨qx, qy⟩ := hq i H hi p
  by_cases hlt : i < xs.length
  · have hx : xs[i]? = some xs[i] := List.getElem?_eq_getElem hlt
    have hlt2 : i < ys.length := by omega
    have hy : ys[i]? = some ys[i] := List.getElem?_eq_getElem hlt2
    refine .inr ⟨⟨xs, ys, _, _, qx, qy, hx, hy⟩, Pv (i + 1), fun H' p' => ⟨xs.length - (i + 1), by omega, rfl, hlt, p'⟩, fun v H' y => ?_⟩
    obtain ⟨T, x', y', rfl, hT, rfl, f1, f2⟩ := y
    exact hs i x' y' T H (f1 xs qx) (f2 ys qy) p hT
  · have e : i = xs.length := by omega
    subst e
    exact .inl ⟨⟨xs, ys, qx, qy, Or.inl (Nat.le_refl _)⟩, hd H p⟩
theorem set_two {α : Type} (σ : List α) {i j : Nat} (hij : i ≠ j) (u v w z : α) : ((((((σ.set j z).set i z).set i v).set j w).set j z).set i z) = (σ.set j z).set i z := by
  apply List.ext_getElem?
  intro n
  simp only [List.getElem?_set, List.length_set]
  split <;> split <;> simp_all
variable {K : PySem.W.Frag} {E E' E1 : XK} {e : EW} {ρ : List (Option D)} {B : Int} {k : KD} {κ : KS} {ta tb tl te : TE} {t : TA} {us ts : TS} {pr : Pr} {i j sl : Nat} {ds : List D}
theorem zip_step {f : D → D → D} {xs ys : List D} {n : Nat} {x y : D} (hx : xs[n]? = some x) (hy : ys[n]? = some y) : (List.zipWith f xs ys).take n ++ [f x y] = (List.zipWith f xs ys).take (n + 1) := by
  have hm : (List.zipWith f xs ys)[n]? = some (f x y) := by rw [List.getElem?_zipWith, hx, hy]
  rw [List.take_add_one, hm]
  rfl
theorem lc_zipD {Sq : Hp → Addr → List V → Prop} {a b : Addr} {xs ys : List D} {us ws : List V} {G H G1 H1 : Hp} {B1 : Int} {σ : L2.St} {Q : VK} {f : D → D → D} (hij : i ≠ j) (e1 : Ext G H B G1 H1 B1) (en : EnvR K G1 B1 ρ σ) (q : KOk K k Q G H B)
    (hkeep : ∀ G' H' B', Ext G1 H1 B1 G' H' B' → Sq H' a us ∧ Sq H' b ws) (hr : RepL K G1 B1 xs us) (hw : RepL K G1 B1 ys ws) (hl : xs.length = ys.length) (hz : xs.length < sizeLine)
    (hs : ∀ (n : Nat) (x y : D), xs[n]? = some x → ys[n]? = some y → ∀ k' : KD, k' (f x y) B1 → We K E1 noE te ((((ρ.set j none).set i none).set i (some x)).set j (some y)) B1 k') (hk : k (.lst (List.zipWith f xs ys)) B1) (D : Addr) (nD : H1 D = none) :
    ∃ W : Nat → Nat → Hp → Prop, (∃ m, W 0 m (upd H1 D (.lst []))) ∧ ∀ n m H, W n m H →
      ((ItzG Sq a b).stop n H ∧ Q (.ref D) H) ∨ ((ItzG Sq a b).go n H ∧ ∃ Nx : Hp → Prop, (∀ H', Nx H' → ∃ m', m' < m ∧ W (n + 1) m' H') ∧ ∀ x H', (ItzG Sq a b).yld n H x H' → gTup K 2 (gCons (gName i) (gCons (gName j) gNil)) x (wipe σ [i, j]) H' fun σ2 H2 => wipe σ2 [i, j] = wipe σ [i, j] ∧ tYes σ2 H2 fun b H3 =>
        if b = true then te σ2 H3 fun y H4 => ∃ acc, H4 D = some (.lst acc) ∧ acc.length < sizeLine ∧ Nx (upd H4 D (.lst (acc ++ [y]))) else Nx H3) := by
  have hul : us.length = ws.length := by rw [← hr.length, ← hw.length]; exact hl
  refine lc_zip (Sq := Sq) (xs := us) (ys := ws) hul (fun n H' => LcOk K (fun out B => out = (List.zipWith f xs ys).take n ∧ B = B1) D G1 H1 B1 H') (lc_start e1.sub nD ⟨by simp, rfl⟩) (fun n H' _ z => ?_) ?_ ?_
  · obtain ⟨out, B', G', acc, hI, e2, gL, hL, hr2⟩ := z
    exact hkeep G' H' B' e2
  · intro n v w T H' hv hw2 hP hT
    obtain ⟨x, hx, rx⟩ := hr.get' hv
    obtain ⟨y, hy, ry⟩ := hw.get' hw2
    obtain ⟨out, B', G', acc, ⟨eo, eB⟩, e2, gL, hL, hr2⟩ := hP
    subst eB
    refine ⟨T, [v, w], rfl, SqT.of upd_same, rfl, v, [w], rfl, w, [], rfl, rfl, ?_, ?_⟩
    · show ((((((σ.set j none).set i none).set i (some v)).set j (some w)).set j none).set i none) = (σ.set j none).set i none
      exact set_two σ hij (some v) (some v) (some w) none
    · have hTD : D ≠ T := ne_of_none hL hT
      have e3 : Ext G' H' B' G' (upd H' T (.tup [v, w])) B' := Ext.hid e2.sub hT
      have e23 := e2.trans e3
      have en2 : EnvR K G' B' ((((ρ.set j none).set i none).set i (some x)).set j (some y)) ((((σ.set j none).set i none).set i (some v)).set j (some w)) := EnvR.set (ry.mono e2.le) j (EnvR.set (rx.mono e2.le) i (EnvR.wipe1 i (EnvR.wipe1 j (en.mono e2.le))))
      refine hs n x y hx hy (fun d B2 => d = f x y ∧ B2 = B') ⟨rfl, rfl⟩ _ _ G' _ e3.sub en2 XOk.no fun d u B4 G4 H4 ⟨ed, eB⟩ e4 r4 => ?_
      subst ed eB
      have hL2 : upd H' T (.tup [v, w]) D = some (.lst acc) := by rw [upd_ne hTD]; exact hL
      obtain ⟨z1, z2⟩ := e4.fr D _ hL2 gL ⟨(fun _ z => nomatch z), fun _ z => nomatch z⟩
      have hlen : acc.length < sizeLine := by
        rw [← hr2.length, eo, List.length_take, List.length_zipWith]
        omega
      refine ⟨acc, z1, hlen, out ++ [f x y], B4, G4, acc ++ [u], ⟨by rw [eo]; exact zip_step hx hy, rfl⟩, ?_, z2, upd_same, (hr2.mono e4.le).append ⟨u, [], rfl, r4, rfl⟩⟩
      have eA := e23.trans e4
      refine ⟨eA.le, fun a o z => ?_, fun a o z n t => ?_⟩
      · have : a ≠ D := fun q => by rw [q, z2] at z; cases z
        rw [upd_ne this]; exact eA.sub _ _ z
      · have : a ≠ D := ne_of_none z nD
        rw [upd_ne this]
        exact eA.fr _ _ z n t
  · intro H' hz2
    refine lc_end e1 nD hz2 (fun out B' hI => ?_) q
    obtain ⟨eo, eB⟩ := hI
    subst eB
    have : (List.zipWith f xs ys).take us.length = List.zipWith f xs ys := List.take_of_length_le (by rw [List.length_zipWith, ← hr.length]; omega)
    rw [eo, this]
    exact hk
/-- [f(x, y) for x, y in zip(tuple, tuple)] -/
theorem we_lc_zipT (hij : i ≠ j) (h : Wa K E e t ρ B fun as B1 => ∃ xs ys : List D, as = [.tup xs, .tup ys] ∧ xs.length = ys.length ∧ xs.length < sizeLine ∧ ∃ f : D → D → D, (∀ (n : Nat) (x y : D), xs[n]? = some x → ys[n]? = some y → ∀ k' : KD, k' (f x y) B1 → We K E1 noE te ((((ρ.set j none).set i none).set i (some x)).set j (some y)) B1 k') ∧ k (.lst (List.zipWith f xs ys)) B1) :
    We K E e (tLc (iZipA K t) (gTup K 2 (gCons (gName i) (gCons (gName j) gNil))) tYes te [i, j]) ρ B k := fun σ H G Q s en x q =>
  h σ H G _ s en x fun as vs B1 G1 H1 ⟨xs, ys, ed, hl, hz, f, hs, hk⟩ e1 r1 => by
    subst ed
    obtain ⟨_, _, rfl, ⟨a, us, rfl, ha, hr⟩, _, _, rfl, ⟨b, ws, rfl, hb, hw⟩, rfl⟩ := r1
    have kp : ∀ G' H' B', Ext G1 H1 B1 G' H' B' → SqT K H' a us ∧ SqT K H' b ws := fun G' H' B' e2 => ⟨(Le.of_sub (B := B) (B' := B) e2.sub (Int.le_refl _)).seqT (e2.le.seqT ha), (Le.of_sub (B := B) (B' := B) e2.sub (Int.le_refl _)).seqT (e2.le.seqT hb)⟩
    obtain ⟨k1, k2⟩ := kp _ _ _ (Ext.refl e1.sub)
    exact ⟨a, b, us, ws, rfl, .inr ⟨k1, k2, fun D nD => lc_zipD (Sq := SqT K) hij e1 (en.mono e1.le) q kp hr hw hl hz hs hk D nD⟩⟩
/-- tuple(list) -/
theorem we_tupleL (h : Wa K E e t ρ B fun ds B1 => ∃ xs : List D, ds = [.lst xs] ∧ k (.tup xs) B1) :
    We K E e (tCB (fun xs H Q => ∃ p ys, xs = [.ref p] ∧ ((SqL K H p ys ∧ ∀ l, H l = none → Q (.ref l) (upd H l (.tup ys))) ∨ (SqT K H p ys ∧ Q (.ref p) H))) t) ρ B k :=
  we_cb fun σ H G Q s en x q => h σ H G Q s en x fun ds vs B1 G1 H1 ⟨xs, ed, h1⟩ e1 r1 => q ds vs B1 G1 H1 (fun ws H2 G2 Q2 s2 r2 q2 => by
    subst ed
    obtain ⟨v, _, rfl, ⟨a, us, rfl, ha, hr⟩, rfl⟩ := r2
    exact ⟨a, us, rfl, .inl ⟨SqL.of (s2 _ _ ha), fun l nl => q2 _ _ _ _ _ h1 (Ext.new s2 nl) ⟨l, us, rfl, SqT.of upd_same, hr.mono (Ext.new (B := B1) s2 nl).le⟩⟩⟩) e1 r1
theorem RepL.ints_inv {G : Hp} : ∀ {ns : List Int} {vs : List V}, RepL K G B (ns.map D.int) vs → vs = ns.map V.int
  | [], _, h => h
  | n :: ns, _, ⟨v, r, e, h, hr⟩ => by rw [e, show v = _ from h, RepL.ints_inv (ns := ns) hr]; rfl
end
end AW

set_option linter.all false
set_option maxRecDepth 100000
set_option maxHeartbeats 4000000
namespace AW
open PySem PySem.Spec PyProof.Rows L2 RZ
variable [Tbs]
section
/-- ends of a statement, the owned list's items told -/
structure KO where
  nx : List (Option D) → List D → Int → Prop := fun _ _ _ => False
  rt : KD
  bk : List (Option D) → List D → Int → Prop := fun _ _ _ => False
  ct : List (Option D) → List D → Int → Prop := fun _ _ _ => False
def OOk (K : PySem.W.Frag) (k : List (Option D) → List D → Int → Prop) (Q : L2.St → Hp → Prop) (i : Nat) (p : Addr) (G0 H0 : Hp) (B0 : Int) : Prop := ∀ ρ ds σ B G H vs, k ρ ds B → Ext G0 H0 B0 G H B → EnvR K G B ρ σ → σ[i]? = some (some (.ref p)) → G p = none → H p = some (.lst vs) → RepL K G B ds vs → Q σ H
structure OEnds (K : PySem.W.Frag) (κ : KO) (Dn : Ends) (i : Nat) (p : Addr) (G0 H0 : Hp) (B0 : Int) : Prop where
  nx : OOk K κ.nx Dn.nx i p G0 H0 B0
  rt : KOk K κ.rt Dn.rt G0 H0 B0
  bk : OOk K κ.bk Dn.bk i p G0 H0 B0
  ct : OOk K κ.ct Dn.ct i p G0 H0 B0
variable {K : PySem.W.Frag} {E E' E1 : XK} {e : EW} {ρ : List (Option D)} {B : Int} {k : KD} {κ : KS} {κo : KO} {ta tb tl te : TE} {t : TA} {s us ts tbody : TS} {pr : Pr} {i j sl : Nat} {ds : List D} {g : TG}
theorem set_id {α : Type} {σ : List α} {i : Nat} {a : α} (h : σ[i]? = some a) : σ.set i a = σ := by
  apply List.ext_getElem?
  intro m
  rw [List.getElem?_set]
  by_cases hj : i = m
  · subst hj
    rw [if_pos rfl, h]
    split
    · rfl
    · have := (List.getElem?_eq_some_iff.mp h).1
      omega
  · rw [if_neg hj]
def del (H : Hp) (p : Addr) : Hp := fun b => if b = p then none else H b
theorem delD_same {H : Hp} {p : Addr} : del H p p = none := if_pos rfl
theorem delD_ne {H : Hp} {p b : Addr} (h : b ≠ p) : del H p b = H b := if_neg h
theorem Ext.base {G0 H0 G1 H1 : Hp} {B0 B1 : Int} {p : Addr} (ex : Ext G0 H0 B0 G1 H1 B1) (np : H0 p = none) (gp : G1 p = none) : Ext G0 H0 B0 G1 (del H1 p) B1 := ⟨ex.le, fun a o z => by
  rw [delD_ne (ne_of_none z gp)]; exact ex.sub _ _ z, fun a o z n t => by
  rw [delD_ne (ne_of_none z np)]; exact ex.fr _ _ z n t⟩
theorem Ext.back {G1 H1 : Hp} {B1 : Int} {p : Addr} (s : Sub G1 H1) : Ext G1 (del H1 p) B1 G1 H1 B1 := ⟨Le.of_sub (fun _ _ z => z) (Int.le_refl _), s, fun a o z n t => by
  have : a ≠ p := fun q => by rw [q, delD_same] at z; cases z
  rw [delD_ne this] at z
  exact ⟨z, n⟩⟩
theorem OOk.ext {k : List (Option D) → List D → Int → Prop} {Q : L2.St → Hp → Prop} {p : Addr} {G0 H0 G1 H1 : Hp} {B0 B1 : Int} (h : OOk K k Q i p G0 H0 B0) (ex : Ext G0 H0 B0 G1 H1 B1) : OOk K k Q i p G1 H1 B1 := fun ρ ds σ B G H vs hk e2 => h ρ ds σ B G H vs hk (ex.trans e2)
theorem OEnds.ext {p : Addr} {Dn : Ends} {G0 H0 G1 H1 : Hp} {B0 B1 : Int} (h : OEnds K κo Dn i p G0 H0 B0) (ex : Ext G0 H0 B0 G1 H1 B1) : OEnds K κo Dn i p G1 H1 B1 := ⟨h.nx.ext ex, h.rt.ext ex, h.bk.ext ex, h.ct.ext ex⟩
/-- the rounds' state -/
def OSt (K : PySem.W.Frag) (I : List (Option D) → List D → Int → Prop) (i : Nat) (p : Addr) (G1 H1 : Hp) (B1 : Int) (σ' : L2.St) (H' : Hp) : Prop := ∃ ρ' ds' B' G' vs', I ρ' ds' B' ∧ Ext G1 H1 B1 G' H' B' ∧ EnvR K G' B' ρ' σ' ∧ σ'[i]? = some (some (.ref p)) ∧ G' p = none ∧ H' p = some (.lst vs') ∧ RepL K G' B' ds' vs'
theorem OSt.ok {I : List (Option D) → List D → Int → Prop} {p : Addr} {G1 H1 : Hp} {B1 : Int} : OOk K I (OSt K I i p G1 H1 B1) i p G1 H1 B1 := fun ρ ds σ B G H vs hk e2 en hp gp hL hr => ⟨ρ, ds, B, G, vs, hk, e2, en, hp, gp, hL, hr⟩
theorem wg_unl {n : Nat} {gs : TGs} {k : KE'} (hn : ds.length = n) (h : Wgs K gs ds ρ B k) : Wg K (gUnl K n gs) (.lst ds) ρ B k := fun v σ H G Q s en r q => by
  obtain ⟨a, vs, rfl, ha, hr⟩ := r
  exact ⟨a, vs, rfl, SqL.of (s _ _ ha), by rw [← hr.length]; exact hn, h vs σ H G Q s en hr q⟩
theorem un65 {k : Nat} {A : Around} (r : Room k A) : A.units + 65 < cLine := by have := r.un; omega
end
end AW

set_option linter.all false
set_option maxRecDepth 100000
set_option maxHeartbeats 4000000
namespace AW
open PySem PySem.Spec PyProof.Rows L2 RZ
variable [Tbs]
section
variable {K : PySem.W.Frag} {E E' E1 : XK} {e : EW} {ρ : List (Option D)} {B : Int} {k : KD} {κ : KS} {ta tb tl te : TE} {t : TA} {i j : Nat}
end
end AW

set_option linter.all false
set_option maxRecDepth 100000
set_option maxHeartbeats 4000000
namespace AW
open PySem PySem.Spec PyProof.Rows L2 RZ
variable [Tbs]
section
variable {K : PySem.W.Frag} {E E' E1 : XK} {e : EW} {ρ : List (Option D)} {B : Int} {k : KD} {κ : KS} {ta tb tl te : TE} {tt : TT} {t : TA} {ts : TS} {g : TG} {i j l sl : Nat} {t1 t2 : TI}
theorem we_lcOrL {vs : List Nat} (h : We K E e (tLc t1 g tt te vs) ρ B k) : We K E e (tLc (iOr t1 t2) g tt te vs) ρ B k := fun σ H G Q s en x q => .inl (h σ H G Q s en x q)
theorem we_lcOrR {vs : List Nat} (h : We K E e (tLc t2 g tt te vs) ρ B k) : We K E e (tLc (iOr t1 t2) g tt te vs) ρ B k := fun σ H G Q s en x q => .inr (h σ H G Q s en x q)
theorem atI_get {α : Type} {xs : List α} {i : Nat} {x : α} (h : xs[i]? = some x) : atI xs (i : Int) = some x := by
  have hl := (List.getElem?_eq_some_iff.mp h).1
  unfold atI ixN
  rw [if_pos (by omega), if_pos (by omega)]
  simpa using h
/-- a list, or a tuple -/
def seqD (b : Bool) (ds : List D) : D := if b = true then .tup ds else .lst ds
theorem we_lenSq (b : Bool) (h : Wa K E e t ρ B fun ds B1 => ∃ xs, ds = [seqD b xs] ∧ k (.int xs.length) B1) : We K E e (tCB (fun xs H Q => ∃ p ys, xs = [.ref p] ∧ (SqL K H p ys ∨ SqT K H p ys) ∧ Q (.int ys.length) H) t) ρ B k := by
  cases b with
  | false => exact we_lenL h
  | true => exact we_lenT h
end
end AW

set_option linter.all false
set_option maxRecDepth 100000
set_option maxHeartbeats 4000000
namespace AW
open PySem PySem.Spec PyProof.Rows L2 RZ
variable [Tbs]
section
variable {K : PySem.W.Frag} {E E' E1 : XK} {e : EW} {ρ : List (Option D)} {B : Int} {k : KD} {κ : KS} {ta tb tl te : TE} {tt : TT} {t : TA} {ts : TS} {g : TG} {sO sI : Nat}
variable {tlo thi : TO}
variable {i j : Nat} {ds : List D} {us tbody : TS} {κo : KO} {tb : TE}
theorem RepL.set {G : Hp} {d : D} {v : V} (rv : Rep K G B d v) : ∀ {ds : List D} {vs : List V} (n : Nat), RepL K G B ds vs → RepL K G B (ds.set n d) (vs.set n v)
  | [], _, _, h => by rw [show _ = _ from h]; exact rfl
  | _ :: _, _, 0, ⟨_, w, rfl, _, h1⟩ => ⟨v, w, rfl, rv, h1⟩
  | _ :: _, _, n + 1, ⟨v0, w, rfl, h0, h1⟩ => ⟨v0, w.set n v, rfl, h0, RepL.set rv n h1⟩
end
end AW

set_option linter.all false
set_option maxRecDepth 100000
set_option maxHeartbeats 4000000
namespace AW
open PySem PySem.Spec PyProof.Rows L2 RZ
variable [Tbs]
section
variable {K : PySem.W.Frag} {E E' E1 : XK} {e : EW} {ρ : List (Option D)} {B : Int} {k : KD} {κ : KS} {κo : KO} {ta tb tl te : TE} {tt : TT} {t : TA} {ts us : TS} {g : TG} {i j sl : Nat} {ds : List D}
end
end AW

set_option linter.all false
set_option maxRecDepth 100000
set_option maxHeartbeats 4000000
namespace AW
open PySem PySem.Spec PyProof.Rows L2 RZ
variable [Tbs]
section
variable {K : PySem.W.Frag} {E E' E1 : XK} {e : EW} {ρ : List (Option D)} {B : Int} {k : KD} {κ : KS} {κo : KO} {ta tb tl te : TE} {tt : TT} {t : TA} {ts us : TS} {g : TG} {i j sl : Nat} {ds : List D}
theorem RepL.eraseIdx {G : Hp} : ∀ {ds : List D} {vs : List V} (n : Nat), RepL K G B ds vs → RepL K G B (ds.eraseIdx n) (vs.eraseIdx n)
  | [], _, _, h => by rw [show _ = _ from h]; exact rfl
  | _ :: _, _, 0, ⟨_, w, rfl, _, h1⟩ => h1
  | _ :: _, _, n + 1, ⟨v0, w, rfl, h0, h1⟩ => ⟨v0, w.eraseIdx n, rfl, h0, RepL.eraseIdx n h1⟩
end
end AW

set_option linter.all false
set_option maxRecDepth 100000
set_option maxHeartbeats 4000000
namespace AW
open PySem PySem.Spec PyProof.Rows L2 RZ
variable [Tbs]
section
variable {K : PySem.W.Frag} {E E' E1 : XK} {e : EW} {ρ : List (Option D)} {B : Int} {k : KD} {κ : KS} {κo : KO} {ta tb tl te : TE} {tt : TT} {t : TA} {ts us : TS} {g : TG} {i j sl : Nat} {ds : List D} {pr : Pr}
end
end AW

set_option linter.all false
set_option maxRecDepth 100000
set_option maxHeartbeats 4000000
namespace AW
open PySem PySem.Spec PyProof.Rows L2 RZ LamX
variable [Tbs]
def IsDT (o : HO) : Prop := ∃ kvs, o = .dT kvs ∨ ∃ ob, o = .frz ob (.dT kvs)
/-- what may change of dicts with tuple keys: locked or not -/
structure Lw (f : Bool) (G : Hp) (B : Int) (G' : Hp) (B' : Int) : Prop where
  b : B ≤ B'
  keep : ∀ a o, G a = some o → ¬ IsPen o → ¬ IsDT o → G' a = some o
  pen : ∀ a k l c s r, G a = some (.dK (penE k l c s r)) → ∃ s' r', G' a = some (.dK (penE k l c s' r')) ∧ (0 ≤ s → s ≤ B → 0 ≤ s' ∧ s' ≤ B')
  tb : Tabs Tbs.T G → Tabs Tbs.T G'
  dt : ∀ a kvs, (G a = some (.dT kvs) ∨ ∃ o, G a = some (.frz o (.dT kvs))) → (G' a = some (.dT kvs) ∨ ∃ o, G' a = some (.frz o (.dT kvs)))
  un : f = true → ∀ a kvs, G a = some (.dT kvs) → G' a = some (.dT kvs)
theorem nodt_tup {xs : List V} : ¬ IsDT (.tup xs) := fun ⟨_, h⟩ => by rcases h with h | ⟨_, h⟩ <;> cases h
theorem nodt_lst {xs : List V} : ¬ IsDT (.lst xs) := fun ⟨_, h⟩ => by rcases h with h | ⟨_, h⟩ <;> cases h
theorem nodt_ftup {o : Obj} {xs : List V} : ¬ IsDT (.frz o (.tup xs)) := fun ⟨_, h⟩ => by rcases h with h | ⟨_, h⟩ <;> cases h
theorem nodt_flst {o : Obj} {xs : List V} : ¬ IsDT (.frz o (.lst xs)) := fun ⟨_, h⟩ => by rcases h with h | ⟨_, h⟩ <;> cases h
section
variable {K : PySem.W.Frag} {G G' : Hp} {B B' : Int} {f : Bool}
theorem Lw.seqT {a : Addr} {xs : List V} (l : Lw f G B G' B') (h : SqT K G a xs) : SqT K G' a xs := by
  rcases h with (h | ⟨o, h⟩) | h
  · exact .inl (.inl (l.keep _ _ h nopen_tup nodt_tup))
  · exact .inl (.inr ⟨o, l.keep _ _ h nopen_frz nodt_ftup⟩)
  · exact .inr h
theorem Lw.seqL {a : Addr} {xs : List V} (l : Lw f G B G' B') (h : SqL K G a xs) : SqL K G' a xs := by
  rcases h with (h | ⟨o, h⟩) | h
  · exact .inl (.inl (l.keep _ _ h nopen_lst nodt_lst))
  · exact .inl (.inr ⟨o, l.keep _ _ h nopen_frz nodt_flst⟩)
  · exact .inr h
end
end AW

set_option linter.all false
set_option maxRecDepth 100000
set_option maxHeartbeats 4000000
namespace AW
open PySem PySem.Spec PyProof.Rows L2 RZ LamX
variable [Tbs]
def kD : Key → D
  | .inl i => .int i
  | .inr x => .str x
section
variable {K : PySem.W.Frag} {G H : Hp} {B : Int}
theorem RepL.keys : ∀ ks : List Key, RepL K G B (ks.map kD) (ks.map kV)
  | [] => rfl
  | .inl _ :: r => ⟨_, _, rfl, rfl, RepL.keys r⟩
  | .inr _ :: r => ⟨_, _, rfl, rfl, RepL.keys r⟩
end
section
variable {K : PySem.W.Frag} {E E' E1 : XK} {e : EW} {ρ : List (Option D)} {B : Int} {k : KD} {κ : KS} {κo : KO} {ta tb tc tl te : TE} {tt : TT} {t : TA} {ts us tbody : TS} {g : TG} {i j sl : Nat} {ds : List D} {pr : Pr}
end
end AW

set_option linter.all false
set_option maxRecDepth 100000
set_option maxHeartbeats 4000000
namespace AW
open PySem PySem.Spec PyProof.Rows L2 RZ LamX
variable [Tbs]
def chS (x : Str) : List Str := x.cps.toList.map fun c => ⟨#[c]⟩
theorem chS_get {x : Str} {i : Nat} {c : Nat} (h : x.cps[i]? = some c) : (chS x)[i]? = some (⟨#[c]⟩ : Str) := by
  unfold chS
  rw [List.getElem?_map, Array.getElem?_toList, h]
  rfl
theorem chS_len (x : Str) : (chS x).length = x.cps.size := by unfold chS; rw [List.length_map, Array.length_toList]
section
variable {K : PySem.W.Frag} {E E' E1 : XK} {e : EW} {ρ : List (Option D)} {B : Int} {k : KD} {κ : KS} {κo : KO} {ta tb tc tl te ti : TE} {tt : TT} {t : TA} {ts us tbody : TS} {g : TG} {i j sl : Nat} {ds : List D} {pr : Pr}
theorem we_cdict {l : List (Str × List V)} (h : We K E e ti ρ B fun d B1 => ∃ (c : Str) (xs : List Int), d = .str c ∧ l.lookup c = some (xs.map V.int) ∧ k (.tup (xs.map D.int)) B1) : We K E e (tCDict K l ti) ρ B k := fun σ H G Q s en x q =>
  h σ H G _ s en x fun d v B1 G1 H1 ⟨c, xs, ed, hl, hk⟩ e1 r1 => by
    subst ed
    rw [show v = _ from r1]
    refine ⟨c, _, rfl, hl, fun b hb => ?_⟩
    exact q _ _ _ _ _ hk e1 ⟨b, _, rfl, hb G1, RepL.ints xs⟩
theorem ws_for_str (h : We K E e te ρ B fun d B1 => ∃ x : Str, d = .str x ∧ ∃ I : Nat → KE', I 0 ρ B1 ∧ (∀ i c ρ' B', (chS x)[i]? = some c → I i ρ' B' → Wg K g (.str c) ρ' B' fun ρ2 B2 => Ws K E e tbody ρ2 B2 { nx := I (i + 1), rt := κ.rt, bk := κ.nx, ct := I (i + 1) }) ∧ ∀ ρ' B', I (chS x).length ρ' B' → κ.nx ρ' B') :
    Ws K E e (tFor (iStr te) g tbody) ρ B κ := fun σ H G Dn s en x q =>
  h σ H G _ s en x fun d v B1 G1 H1 ⟨z, ed, I, i0, hs, hd⟩ e1 r1 => by
    subst ed
    rw [show v = _ from r1]
    refine ⟨z, rfl, ?_⟩
    rw [chS_len] at hd
    refine for_it walk_str (fun i σ' H' => ∃ ρ' B' G', I i ρ' B' ∧ Ext G1 H1 B1 G' H' B' ∧ EnvR K G' B' ρ' σ') ⟨ρ, B1, G1, i0, Ext.refl e1.sub, en.mono e1.le⟩ (fun _ _ _ _ _ => trivial) ?_ ?_
    · rintro n y σ' H' H'' hn ⟨ρ', B', G', hI, e2, en2⟩ ⟨eH, c, hc, ey⟩
      subst eH ey
      refine hs n _ ρ' B' (chS_get hc) hI _ σ' H'' G' _ e2.sub en2 rfl fun ρ2 σ2 B2 G2 H2 h2 e3 en3 => ?_
      have eA := e1.trans (e2.trans e3)
      exact h2 σ2 H2 G2 _ e3.sub en3 (x.ext eA) ⟨fun ρ3 σ3 B3 G3 H3 h3 e4 en4 => ⟨ρ3, B3, G3, h3, (e2.trans e3).trans e4, en4⟩, q.rt.ext eA, q.nx.ext eA, fun ρ3 σ3 B3 G3 H3 h3 e4 en4 => ⟨ρ3, B3, G3, h3, (e2.trans e3).trans e4, en4⟩⟩
    · rintro σ' H' ⟨ρ', B', G', hI, e2, en2⟩
      exact q.nx _ _ _ _ _ (hd _ _ hI) (e1.trans e2) en2
/-- [f(c) for c in text if p(c)] -/
theorem we_lc_strF (h : We K E e te ρ B fun d B1 => ∃ (x : Str) (p : Str → Bool) (f : Str → D), d = .str x ∧ (chS x).length < 1000 ∧ (∀ c ∈ chS x, ∀ kb : Bool → Int → Prop, kb (p c) B1 → Wt K E1 noE tt ((ρ.set sl none).set sl (some (.str c))) B1 kb) ∧
    (∀ c ∈ chS x, p c = true → ∀ k' : KD, k' (f c) B1 → We K E1 noE tl ((ρ.set sl none).set sl (some (.str c))) B1 k') ∧ k (.lst (((chS x).filter p).map f)) B1) :
    We K E e (tLc (iStr te) (gName sl) tt tl [sl]) ρ B k := fun σ H G Q s en x q =>
  h σ H G _ s en x fun d v B1 G1 H1 ⟨z, p, f, ed, hl, ht, he, hk⟩ e1 r1 => by
    subst ed
    rw [show v = _ from r1]
    refine ⟨z, rfl, fun L nL => ?_⟩
    refine lc_it walk_str (fun n H' => LcOk K (fun out B' => out.length ≤ n ∧ (out = (((chS z).take n).filter p).map f ∧ B' = B1)) L G1 H1 B1 H') (lc_start e1.sub nL ⟨Nat.le_refl _, rfl, rfl⟩) (fun _ _ _ _ => trivial) ?_ ?_
    · intro n y H' H'' hn hz ⟨eH, c, hc, ey⟩
      subst eH ey
      have hcc := chS_get hc
      have hm := List.mem_of_getElem? hcc
      have hsz : 1000 < sizeLine := by decide
      have hlt := (List.getElem?_eq_some_iff.mp hcc).1
      have htk : ((chS z).take (n + 1)).filter p = ((chS z).take n).filter p ++ (if p ⟨#[c]⟩ = true then [⟨#[c]⟩] else []) := by
        rw [List.take_add_one, hcc, Option.toList_some, List.filter_append]
        congr 1
        by_cases hp : p ⟨#[c]⟩ = true
        · rw [if_pos hp]; simp [hp]
        · rw [if_neg hp]; simp [hp]
      refine lc_step (E1 := E1) (ρ := ρ) (I := fun n out B' => out = (((chS z).take n).filter p).map f ∧ B' = B1) (d := .str ⟨#[c]⟩) nL e1.sub (en.mono e1.le) hz (by omega) rfl (fun out B' ⟨eo, eB⟩ => ?_)
      subst eB
      refine ht _ hm _ ⟨fun hb => he _ hm hb _ ⟨?_, rfl⟩, fun hb => ⟨?_, rfl⟩⟩
      · rw [htk, hb, if_pos rfl, List.map_append, eo]; rfl
      · rw [htk, hb, if_neg Bool.false_ne_true, List.append_nil, eo]
    · intro H' hz
      refine lc_end e1 nL hz (fun out B' ⟨_, eo, eB⟩ => ?_) q
      rw [← chS_len, List.take_length] at eo
      rw [eo, eB]
      exact hk
/-- ''.join(list of texts) -/
theorem we_join (h : We K E e ta ρ B fun d B1 => ∃ a, d = .str a ∧ We K E e tb ρ B1 fun d2 B2 => ∃ ys : List Str, d2 = .lst (ys.map D.str) ∧ (ys.map (·.length)).sum + ys.length * a.length ≤ 16777216 ∧ k (.str (Txt.join a ys)) B2) :
    We K E e (tM1 (fun x xs H Q => ∃ a p, ∃ ys : List Str, x = .str a ∧ xs = [.ref p] ∧ (SqL K H p (ys.map V.str) ∨ SqT K H p (ys.map V.str)) ∧ (ys.map (·.length)).sum + ys.length * a.length ≤ 16777216 ∧ Q (.str (Txt.join a ys)) H) ta tb) ρ B k := fun σ H G Q s en x q =>
  h σ H G _ s en x fun d v B1 G1 H1 ⟨a, ed, h1⟩ e1 r1 => by
    subst ed
    rw [show v = _ from r1]
    refine ⟨⟨a, rfl⟩, h1 σ H1 G1 _ e1.sub (en.mono e1.le) (x.ext e1) fun d2 w B2 G2 H2 ⟨ys, e2d, hz, hk⟩ e2 r2 => ?_⟩
    subst e2d
    obtain ⟨p, vs, rfl, hp, hr⟩ := r2
    have ev : ∀ (ys : List Str) (vs : List V), RepL K G2 B2 (ys.map D.str) vs → vs = ys.map V.str := by
      intro ys
      induction ys with
      | nil => intro vs h; exact h
      | cons c r ih =>
        intro vs h
        obtain ⟨v, w, rfl, h1, h2⟩ := h
        rw [show v = _ from h1, ih _ h2]; rfl
    have hv := ev ys vs hr
    subst hv
    exact ⟨a, p, ys, rfl, rfl, .inl (SqL.of (e2.sub _ _ hp)), hz, q _ _ _ _ _ hk (e1.trans e2) rfl⟩
theorem ro_inS {a b : Str} (h : k (.bl (!(Builtin.Str.occurrences b a 0 b.length 1).isEmpty)) B) : Ro K E e (fun x y H Q => ∃ i j, x = .str i ∧ y = .str j ∧ Q (.bl (!(Builtin.Str.occurrences j i 0 j.length 1).isEmpty)) H) (.str a) (.str b) B k := fun x y H G Q s r1 r2 _ q => by
  rw [show x = _ from r1, show y = _ from r2]
  exact ⟨a, b, rfl, rfl, q _ _ _ _ _ h (Ext.refl s) rfl⟩
end
end AW

set_option linter.all false
set_option maxRecDepth 100000
set_option maxHeartbeats 4000000
namespace AW
open PySem PySem.Spec PyProof.Rows L2 RZ LamX
variable [Tbs]
inductive OC where
  | dict (l : List (List Key × Int))
  | list (es : List D)
  | dictD (l : List (List Key × D))
  | lckD (od : Obj) (l : List (List Key × D)) (vs : List V)
  | obj (C dx : Addr) (fs : List (Str × D))
def kvI (e : List Key × Int) : List Key × V := (e.1, .int e.2)
def Own1 (K : PySem.W.Frag) (G H : Hp) (B : Int) (a : Addr) : OC → Prop
  | .dict l => H a = some (.dT (l.map kvI))
  | .list es => ∃ vs, H a = some (.lst vs) ∧ RepL K G B es vs
  | .dictD l => ∃ vs, H a = some (.dT ((l.map (·.1)).zip vs)) ∧ RepL K G B (l.map (·.2)) vs
  | .lckD od l vs => H a = some (.frz od (.dT ((l.map (·.1)).zip vs))) ∧ RepL K G B (l.map (·.2)) vs
  | .obj C dx fs => ∃ vs, H a = some (.ins C dx ((fs.map (·.1)).zip vs)) ∧ RepL K G B (fs.map (·.2)) vs
def NoH0 (G0 H0 : Hp) (a : Addr) : Prop := ∀ o, H0 a = some o → G0 a = none → NTb o → False
structure Owns (K : PySem.W.Frag) (G0 H0 G H : Hp) (B : Int) (O : List (Addr × OC)) : Prop where
  nd : (O.map (·.1)).Nodup
  at_ : ∀ x ∈ O, NoH0 G0 H0 x.1 ∧ G x.1 = none ∧ Own1 K G H B x.1 x.2
structure KX where
  nx : List (Option D) → List (Addr × OC) → Int → Prop := fun _ _ _ => False
  rt : KD
  bk : List (Option D) → List (Addr × OC) → Int → Prop := fun _ _ _ => False
  ct : List (Option D) → List (Addr × OC) → Int → Prop := fun _ _ _ => False
section
variable {K : PySem.W.Frag}
theorem Own1.ext {G H G1 H1 : Hp} {B B1 : Int} {a : Addr} {o : OC} (h : Own1 K G H B a o) (g : G a = none) (e : Ext G H B G1 H1 B1) : Own1 K G1 H1 B1 a o ∧ G1 a = none := by
  cases o with
  | dict l =>
    obtain ⟨z1, z2⟩ := e.fr a _ h g ⟨(fun _ z => nomatch z), fun _ z => nomatch z⟩
    exact ⟨z1, z2⟩
  | list es =>
    obtain ⟨vs, h, hr⟩ := h
    obtain ⟨z1, z2⟩ := e.fr a _ h g ⟨(fun _ z => nomatch z), fun _ z => nomatch z⟩
    exact ⟨⟨vs, z1, hr.mono e.le⟩, z2⟩
  | dictD l =>
    obtain ⟨vs, h, hr⟩ := h
    obtain ⟨z1, z2⟩ := e.fr a _ h g ⟨(fun _ z => nomatch z), fun _ z => nomatch z⟩
    exact ⟨⟨vs, z1, hr.mono e.le⟩, z2⟩
  | lckD od l vs =>
    obtain ⟨h, hr⟩ := h
    obtain ⟨z1, z2⟩ := e.fr a _ h g ⟨(fun _ z => nomatch z), fun _ z => nomatch z⟩
    exact ⟨⟨z1, hr.mono e.le⟩, z2⟩
  | obj C dx fs =>
    obtain ⟨vs, h, hr⟩ := h
    obtain ⟨z1, z2⟩ := e.fr a _ h g ⟨(fun _ z => nomatch z), fun _ z => nomatch z⟩
    exact ⟨⟨vs, z1, hr.mono e.le⟩, z2⟩
theorem Owns.ext {G0 H0 G H G1 H1 : Hp} {B B1 : Int} {O : List (Addr × OC)} (h : Owns K G0 H0 G H B O) (e : Ext G H B G1 H1 B1) : Owns K G0 H0 G1 H1 B1 O :=
  ⟨h.nd, fun x hx => let ⟨a, b, c⟩ := h.at_ x hx; ⟨a, (c.ext b e).2, (c.ext b e).1⟩⟩
def XEnd (K : PySem.W.Frag) (k : List (Option D) → List (Addr × OC) → Int → Prop) (Q : L2.St → Hp → Prop) (G0 H0 : Hp) (B0 : Int) : Prop := ∀ ρ O σ B G H, k ρ O B → Ext G0 H0 B0 G H B → EnvR K G B ρ σ → Owns K G0 H0 G H B O → Q σ H
structure XEnds (K : PySem.W.Frag) (κ : KX) (Dn : Ends) (G0 H0 : Hp) (B0 : Int) : Prop where
  nx : XEnd K κ.nx Dn.nx G0 H0 B0
  rt : KOk K κ.rt Dn.rt G0 H0 B0
  bk : XEnd K κ.bk Dn.bk G0 H0 B0
  ct : XEnd K κ.ct Dn.ct G0 H0 B0
def WOw (K : PySem.W.Frag) (E : XK) (e : EW) (t : TS) (ρ : List (Option D)) (B : Int) (O : List (Addr × OC)) (κ : KX) : Prop :=
  ∀ σ H G Dn G0 H0 B0, EnvR K G B ρ σ → Owns K G0 H0 G H B O → Ext G0 H0 B0 G H B → XOk K E e G0 H0 B0 → XEnds K κ Dn G0 H0 B0 → t Dn σ H
variable {E E' : XK} {e : EW} {ρ : List (Option D)} {B : Int} {k : KD} {κ : KS} {κx : KX} {ta tb tc tl te ti : TE} {tt : TT} {t : TA} {s ts us tbody : TS} {g : TG} {i j n : Nat} {ds : List D} {O : List (Addr × OC)} {p : Addr} {l : List (List Key × Int)} {es : List D}
theorem wx_own (h : WOw K E e s ρ B [] { nx := fun ρ' _ B' => κ.nx ρ' B', rt := κ.rt }) : Ws K E e s ρ B κ := fun σ H G Dn sb en x q =>
  h σ H G Dn G H B en ⟨List.nodup_nil, fun x hx => nomatch hx⟩ (Ext.refl sb) x ⟨fun ρ' O' σ' B' G' H' hz ex en' _ => q.nx ρ' σ' B' G' H' hz ex en', q.rt, fun _ _ _ _ _ _ z => z.elim, fun _ _ _ _ _ _ z => z.elim⟩
theorem wx_seq (h : WOw K E e s ρ B O { κx with nx := fun ρ' O' B' => WOw K E e us ρ' B' O' κx }) : WOw K E e (tSeq s us) ρ B O κx := fun σ H G Dn G0 H0 B0 en ow ex x q =>
  h σ H G { Dn with nx := us Dn } G0 H0 B0 en ow ex x ⟨fun ρ' O' σ' B' G' H' hz ex' en' ow' => hz σ' H' G' Dn G0 H0 B0 en' ow' ex' x q, q.rt, q.bk, q.ct⟩
theorem wx_cut (J : List (Option D) → List (Addr × OC) → Int → Prop) (h1 : WOw K E e s ρ B O { κx with nx := J }) (h2 : ∀ ρ' O' B', J ρ' O' B' → WOw K E e us ρ' B' O' κx) : WOw K E e (tSeq s us) ρ B O κx :=
  wx_seq fun σ H G Dn G0 H0 B0 en ow ex x q => h1 σ H G Dn G0 H0 B0 en ow ex x ⟨fun ρ' O' σ' B' G' H' hz ex' en' ow' => q.nx ρ' O' σ' B' G' H' (h2 _ _ _ hz) ex' en' ow', q.rt, q.bk, q.ct⟩
theorem wx_next (h : κx.nx ρ O B) : WOw K E e tNext ρ B O κx := fun σ H G Dn G0 H0 B0 en ow ex x q => q.nx _ _ _ _ _ _ h ex en ow
theorem wx_ws (h : Ws K E e s ρ B { nx := fun ρ' B' => κx.nx ρ' O B', rt := κx.rt, bk := fun ρ' B' => κx.bk ρ' O B', ct := fun ρ' B' => κx.ct ρ' O B' }) : WOw K E e s ρ B O κx := fun σ H G Dn G0 H0 B0 en ow ex x q =>
  h σ H G Dn ex.sub en (x.ext ex) ⟨fun ρ' σ' B' G' H' hz e1 en' => q.nx ρ' O σ' B' G' H' hz (ex.trans e1) en' (ow.ext e1), q.rt.ext ex, fun ρ' σ' B' G' H' hz e1 en' => q.bk ρ' O σ' B' G' H' hz (ex.trans e1) en' (ow.ext e1), fun ρ' σ' B' G' H' hz e1 en' => q.ct ρ' O σ' B' G' H' hz (ex.trans e1) en' (ow.ext e1)⟩
theorem none_sub {G H : Hp} {a : Addr} (s : Sub G H) (h : H a = none) : G a = none := by
  cases z : G a with
  | none => rfl
  | some u => rw [s _ _ z] at h; cases h
theorem Own1.some {G H : Hp} {a : Addr} {o : OC} (h : Own1 K G H B a o) : ∃ v, H a = some v := by
  cases o with
  | dict l => exact ⟨_, h⟩
  | list es => obtain ⟨vs, h, _⟩ := h; exact ⟨_, h⟩
  | dictD l => obtain ⟨vs, h, _⟩ := h; exact ⟨_, h⟩
  | lckD od l vs => exact ⟨_, h.1⟩
  | obj C dx fs => obtain ⟨vs, h, _⟩ := h; exact ⟨_, h⟩
theorem noH0 {G0 H0 G H : Hp} {B0 : Int} {a : Addr} (ex : Ext G0 H0 B0 G H B) (ha : H a = none) : NoH0 G0 H0 a := fun o z y nt => by
  rw [(ex.fr a o z y nt).1] at ha; cases ha
/-- a new thing owned -/
theorem owns_cons {G0 H0 G H : Hp} {B0 : Int} {a : Addr} {o : OC} {u : HO} (ow : Owns K G0 H0 G H B O) (ex : Ext G0 H0 B0 G H B) (ha : H a = none) (h1 : Own1 K G (upd H a u) B a o) : Owns K G0 H0 G (upd H a u) B ((a, o) :: O) := by
  refine ⟨List.nodup_cons.mpr ⟨fun hm => ?_, ow.nd⟩, fun x hx => ?_⟩
  · obtain ⟨c, hc, ec⟩ := List.mem_map.mp hm
    obtain ⟨v, hv⟩ := (ow.at_ c hc).2.2.some
    have ec : c.1 = a := ec
    rw [ec, ha] at hv; cases hv
  · rcases List.mem_cons.mp hx with rfl | hx
    · exact ⟨noH0 ex ha, none_sub ex.sub ha, h1⟩
    · obtain ⟨z1, z2, z3⟩ := ow.at_ x hx
      exact ⟨z1, z2, (z3.ext z2 (Ext.hid (B := B) ex.sub ha)).1⟩
theorem Ext.chgN {G0 H0 G H : Hp} {B0 : Int} {a : Addr} {o : HO} (ex : Ext G0 H0 B0 G H B) (np : NoH0 G0 H0 a) (gp : G a = none) : Ext G0 H0 B0 G (upd H a o) B :=
  ⟨ex.le, fun b u z => by rw [upd_ne (ne_of_none z gp)]; exact ex.sub _ _ z, fun b u z n t => by rw [upd_ne (fun w => by subst w; exact np u z n t)]; exact ex.fr _ _ z n t⟩
/-- a thing owned is changed -/
theorem owns_set {G0 H0 G H : Hp} {a : Addr} {o o' : OC} {u : HO} (ow : Owns K G0 H0 G H B O) (hn : O[n]? = some (a, o)) (h1 : Own1 K G (upd H a u) B a o') : Owns K G0 H0 G (upd H a u) B (O.set n (a, o')) := by
  have hl := (List.getElem?_eq_some_iff.mp hn).1
  have he : (O.set n (a, o')).map (·.1) = O.map (·.1) := by
    apply List.ext_getElem?
    intro m
    rw [List.getElem?_map, List.getElem?_map, List.getElem?_set]
    by_cases q : n = m
    · subst q; rw [if_pos rfl, if_pos hl, hn]; rfl
    · rw [if_neg q]
  refine ⟨by rw [he]; exact ow.nd, fun x hx => ?_⟩
  obtain ⟨m, hm⟩ := List.mem_iff_getElem?.mp hx
  rw [List.getElem?_set] at hm
  by_cases q : n = m
  · subst q
    rw [if_pos rfl, if_pos hl] at hm
    cases hm
    obtain ⟨z1, z2, _⟩ := ow.at_ _ (List.mem_of_getElem? hn)
    exact ⟨z1, z2, h1⟩
  · rw [if_neg q] at hm
    obtain ⟨z1, z2, z3⟩ := ow.at_ _ (List.mem_of_getElem? hm)
    have ne : x.1 ≠ a := fun w => by
      have e1 : (O.map (·.1))[n]? = some a := by rw [List.getElem?_map, hn]; rfl
      have e2 : (O.map (·.1))[m]? = some a := by rw [List.getElem?_map, hm, ← w]; rfl
      have hm' := (List.getElem?_eq_some_iff.mp hm).1
      exact q ((List.getElem?_inj (by rw [List.length_map]; exact hl) ow.nd).mp (e1.trans e2.symm))
    refine ⟨z1, z2, ?_⟩
    revert z3
    cases x.2 with
    | dict l => intro z3; show upd H a u x.1 = _; rw [upd_ne ne]; exact z3
    | list es => rintro ⟨vs, z3, z4⟩; exact ⟨vs, by rw [upd_ne ne]; exact z3, z4⟩
    | dictD l => rintro ⟨vs, z3, z4⟩; exact ⟨vs, by rw [upd_ne ne]; exact z3, z4⟩
    | lckD od l vs => rintro ⟨z3, z4⟩; exact ⟨by rw [upd_ne ne]; exact z3, z4⟩
    | obj C dx fs => rintro ⟨vs, z3, z4⟩; exact ⟨vs, by rw [upd_ne ne]; exact z3, z4⟩
/-- a thing owned is told -/
theorem owns_tell {G0 H0 G H : Hp} {B0 : Int} {a : Addr} {o : OC} {u : HO} (ow : Owns K G0 H0 G H B ((a, o) :: O)) (ex : Ext G0 H0 B0 G H B) (hu : H a = some u) : Ext G0 H0 B0 (upd G a u) H B ∧ Owns K G0 H0 (upd G a u) H B O ∧ Le G B (upd G a u) B := by
  obtain ⟨np, gp, _⟩ := ow.at_ (a, o) (List.mem_cons_self ..)
  have np : NoH0 G0 H0 a := np
  have gp : G a = none := gp
  have le : Le G B (upd G a u) B := Le.of_sub (fun b o z => by rw [upd_ne (ne_of_none z gp)]; exact z) (Int.le_refl _)
  refine ⟨⟨ex.le.trans le, fun b o z => ?_, fun b o z n t => ?_⟩, ⟨(List.nodup_cons.mp ow.nd).2, fun x hx => ?_⟩, le⟩
  · by_cases w : b = a
    · subst w; rw [upd_same] at z; cases z; exact hu
    · rw [upd_ne w] at z; exact ex.sub _ _ z
  · rw [upd_ne (fun w => by subst w; exact np o z n t)]; exact ex.fr _ _ z n t
  · obtain ⟨z1, z2, z3⟩ := ow.at_ x (List.mem_cons_of_mem _ hx)
    have ne : x.1 ≠ a := fun w => (List.nodup_cons.mp ow.nd).1 (List.mem_map.mpr ⟨x, hx, w⟩)
    refine ⟨z1, by rw [upd_ne ne]; exact z2, ?_⟩
    revert z3
    cases x.2 with
    | dict l => exact fun z3 => z3
    | list es => rintro ⟨vs, z3, z4⟩; exact ⟨vs, z3, z4.mono le⟩
    | dictD l => rintro ⟨vs, z3, z4⟩; exact ⟨vs, z3, z4.mono le⟩
    | lckD od l vs => rintro ⟨z3, z4⟩; exact ⟨z3, z4.mono le⟩
    | obj C dx fs => rintro ⟨vs, z3, z4⟩; exact ⟨vs, z3, z4.mono le⟩
theorem wx_newlist (hk : ∀ p, κx.nx (ρ.set i (some (.val (.ref p)))) ((p, .list []) :: O) B) : WOw K E e (tAsg (tLst tNil) (gName i)) ρ B O κx := fun σ H G Dn G0 H0 B0 en ow ex x q => by
  refine ⟨by decide, fun p hp => ?_⟩
  exact q.nx _ _ _ B G _ (hk p) (ex.trans (Ext.hid ex.sub hp)) (EnvR.set (d := .val (.ref p)) (v := .ref p) rfl i en) (owns_cons ow ex hp ⟨[], upd_same, rfl⟩)
theorem own_at {G0 H0 G H : Hp} {o : OC} (ow : Owns K G0 H0 G H B O) (hn : O[n]? = some (p, o)) : NoH0 G0 H0 p ∧ G p = none ∧ Own1 K G H B p o := ow.at_ (p, o) (List.mem_of_getElem? hn)
/-- l.append(x) -/
theorem wx_app (hn : O[n]? = some (p, .list es)) (hi : ρ[i]? = some (some (.val (.ref p)))) (h : We K E e ta ρ B fun d B1 => es.length < sizeLine ∧ κx.nx ρ (O.set n (p, .list (es ++ [d]))) B1) : WOw K E e (tDrop (tBM K "list" rAppend (tVar i) (tCons ta tNil))) ρ B O κx := fun σ H G Dn G0 H0 B0 en ow ex x q => by
  obtain ⟨v0, hv0, e0⟩ := en.get hi
  rw [show v0 = _ from e0] at hv0
  obtain ⟨np, gp, vs, hL, hr⟩ := own_at ow hn
  refine ⟨.ref p, hv0, .inl ⟨rfl, vs, SqL.of hL⟩, h σ H G _ ex.sub en (x.ext ex) fun d v B1 G1 H1 ⟨hl, hk⟩ e1 r1 => ?_⟩
  obtain ⟨z1, z2⟩ := e1.fr p _ hL gp ⟨(fun _ z => nomatch z), fun _ z => nomatch z⟩
  refine ⟨p, vs, v, rfl, rfl, z1, by rw [← hr.length]; exact hl, ?_⟩
  exact q.nx _ _ σ B1 G1 _ hk ((ex.trans e1).chgN np z2) (en.mono e1.le) (owns_set (ow.ext e1) hn ⟨_, upd_same, (hr.mono e1.le).append ⟨v, [], rfl, r1, rfl⟩⟩)
theorem putK_new {l : List (List Key × Int)} {c : List Key} {z : Int} (hc : ∀ x ∈ l, x.1 ≠ c) : putK (l.map kvI) c (.int z) = (l ++ [(c, z)]).map kvI := by
  unfold putK
  rw [if_neg (by
    rw [List.any_eq_true]
    rintro ⟨y, hy, hd⟩
    obtain ⟨x, hx, rfl⟩ := List.mem_map.mp hy
    exact hc x hx (of_decide_eq_true hd)), List.map_append]
  rfl
/-- the list owned is told from here on -/
theorem wx_tell (hi : ρ[i]? = some (some (.val (.ref p)))) (h : WOw K E e s (ρ.set i (some (.lst es))) B O κx) : WOw K E e s ρ B ((p, .list es) :: O) κx := fun σ H G Dn G0 H0 B0 en ow ex x q => by
  obtain ⟨v0, hv0, e0⟩ := en.get hi
  rw [show v0 = _ from e0] at hv0
  obtain ⟨np, gp, vs, hL, hr⟩ := own_at (n := 0) ow rfl
  obtain ⟨ex2, ow2, le⟩ := owns_tell ow ex hL
  have en2 := EnvR.set (d := .lst es) (v := .ref p) ⟨p, vs, rfl, upd_same, hr.mono le⟩ i (en.mono le)
  rw [set_id hv0] at en2
  exact h σ H _ Dn G0 H0 B0 en2 ow2 ex2 x q
end
end AW

set_option linter.all false
set_option maxRecDepth 100000
set_option maxHeartbeats 4000000
namespace AW
open PySem PySem.Spec PyProof.Rows L2 RZ LamX
variable [Tbs]
theorem strs_eq {i j : Str} : decide (V.str i = V.str j) = decide (i = j) := by
  by_cases h : i = j
  · subst h; simp
  · simp [h]
section
variable {K : PySem.W.Frag} {E E' : XK} {e : EW} {ρ : List (Option D)} {B : Int} {k : KD} {κ : KS} {κx : KX} {ta tb tc tl te ti : TE} {tt : TT} {t : TA} {s ts us tbody : TS} {g : TG} {i j n : Nat} {ds : List D} {O : List (Addr × OC)} {p : Addr} {l : List (List Key × Int)} {es : List D}
theorem wx_ifT {c : TT} (h : Wt K E e c ρ B fun b B1 => (b = true → WOw K E e ts ρ B1 O κx) ∧ (b = false → WOw K E e us ρ B1 O κx)) : WOw K E e (tIfS c ts us) ρ B O κx := fun σ H G Dn G0 H0 B0 en ow ex x q =>
  h σ H G _ ex.sub en (x.ext ex) fun b B1 G1 H1 ⟨h1, h2⟩ e1 => by
    cases b with
    | true => rw [if_pos rfl]; exact h1 rfl σ H1 G1 Dn G0 H0 B0 (en.mono e1.le) (ow.ext e1) (ex.trans e1) x q
    | false => rw [if_neg Bool.false_ne_true]; exact h2 rfl σ H1 G1 Dn G0 H0 B0 (en.mono e1.le) (ow.ext e1) (ex.trans e1) x q
abbrev IX := Nat → List (Option D) → List (Addr × OC) → Int → Prop
/-- the state of a loop -/
def PX (K : PySem.W.Frag) (I : IX) (G0 H0 : Hp) (B0 : Int) (n : Nat) (σ : L2.St) (H : Hp) : Prop := ∃ ρ' O' B' G', I n ρ' O' B' ∧ Ext G0 H0 B0 G' H B' ∧ EnvR K G' B' ρ' σ ∧ Owns K G0 H0 G' H B' O'
theorem px_step {I : IX} {G0 H0 : Hp} {B0 : Int} {Dn : Ends} {m : Nat} {d : D} {v : V} {σ : L2.St} {H : Hp} {ρ' : List (Option D)} {O' : List (Addr × OC)} {B' : Int} {G' : Hp} (hI : I m ρ' O' B') (e0 : Ext G0 H0 B0 G' H B') (en : EnvR K G' B' ρ' σ) (ow : Owns K G0 H0 G' H B' O') (rv : Rep K G' B' d v)
    (x : XOk K E e G0 H0 B0) (q : XEnds K κx Dn G0 H0 B0) (hs : Wg K g d ρ' B' fun ρ2 B2 => WOw K E e tbody ρ2 B2 O' { nx := I (m + 1), rt := κx.rt, bk := κx.nx, ct := I (m + 1) }) :
    g v σ H fun σ2 H2 => tbody { Dn with nx := PX K I G0 H0 B0 (m + 1), ct := PX K I G0 H0 B0 (m + 1), bk := Dn.nx } σ2 H2 := by
  refine hs v σ H G' _ e0.sub en rv fun ρ2 σ2 B2 G2 H2 h2 e3 en3 => ?_
  exact h2 σ2 H2 G2 _ G0 H0 B0 en3 (ow.ext e3) (e0.trans e3) x ⟨fun ρ3 O3 σ3 B3 G3 H3 h3 e4 en4 ow4 => ⟨ρ3, O3, B3, G3, h3, e4, en4, ow4⟩, q.rt, q.nx, fun ρ3 O3 σ3 B3 G3 H3 h3 e4 en4 ow4 => ⟨ρ3, O3, B3, G3, h3, e4, en4, ow4⟩⟩
theorem wx_for_range1 (h : Wa K E e t ρ B fun as B1 => ∃ m : Int, as = [.int m] ∧ -(2 ^ 62) ≤ m ∧ m < 2 ^ 62 ∧ ∃ I : IX, I 0 ρ O B1 ∧ (∀ n ρ' O' B', n < m.toNat → I n ρ' O' B' → Wg K g (.int (0 + n)) ρ' B' fun ρ2 B2 => WOw K E e tbody ρ2 B2 O' { nx := I (n + 1), rt := κx.rt, bk := κx.nx, ct := I (n + 1) }) ∧ ∀ ρ' O' B', I m.toNat ρ' O' B' → κx.nx ρ' O' B') :
    WOw K E e (tFor (iRng1 t) g tbody) ρ B O κx := fun σ H G Dn G0 H0 B0 en ow ex x q =>
  h σ H G _ ex.sub en (x.ext ex) fun as vs B1 G1 H1 ⟨m, ed, m0, m1, I, i0, hs, hd⟩ e1 r1 => by
    subst ed
    obtain ⟨v, _, rfl, rv, rfl⟩ := r1
    rw [show v = _ from rv]
    refine ⟨m, rfl, m0, m1, for_it walk_range (PX K I G0 H0 B0) ⟨ρ, O, B1, G1, i0, ex.trans e1, en.mono e1.le, ow.ext e1⟩ (fun _ _ _ _ _ => trivial) ?_ ?_⟩
    · rintro n y σ' H' H'' hn ⟨ρ', O', B', G', hI, e0, en2, ow2⟩ ⟨eH, ey⟩
      subst eH ey
      exact px_step (d := .int (0 + n)) hI e0 en2 ow2 rfl x q (hs n ρ' O' B' hn hI)
    · rintro σ' H' ⟨ρ', O', B', G', hI, e0, en2, ow2⟩
      exact q.nx _ _ _ _ _ _ (hd _ _ _ hI) e0 en2 ow2
/-- for x in l, l a variable's list -/
theorem wx_for_list (hj : ρ[j]? = some (some (.lst ds))) (h : ∀ u : V, ∃ I : IX, I 0 (ρ.set j (some (.at_ u (.lst ds)))) O B ∧ (∀ n ρ' O' B', I n ρ' O' B' → ρ'[j]? = some (some (.at_ u (.lst ds)))) ∧ (∀ n d ρ' O' B', ds[n]? = some d → I n ρ' O' B' → Wg K g d ρ' B' fun ρ2 B2 => WOw K E e tbody ρ2 B2 O' { nx := I (n + 1), rt := κx.rt, bk := κx.nx, ct := I (n + 1) }) ∧ ∀ ρ' O' B', I ds.length ρ' O' B' → κx.nx ρ' O' B') :
    WOw K E e (tFor (iList K (tVar j)) g tbody) ρ B O κx := fun σ H G Dn G0 H0 B0 en ow ex x q => by
  obtain ⟨v0, hv0, a, vs, rfl, ha, hr⟩ := en.get hj
  obtain ⟨I, i0, hI, hs, hd⟩ := h (.ref a)
  have en0 := EnvR.set (d := .at_ (.ref a) (.lst ds)) (v := .ref a) ⟨rfl, a, vs, rfl, ha, hr⟩ j en
  rw [set_id hv0] at en0
  have ha2 : SqL K H a vs := SqL.of (ex.sub _ _ ha)
  refine ⟨.ref a, hv0, a, rfl, ⟨vs, ha2⟩, ?_⟩
  refine ⟨fun i m σ H => m = ds.length - i ∧ i ≤ ds.length ∧ PX K I G0 H0 B0 i σ H, ⟨ds.length, by simp, Nat.zero_le _, ρ.set j (some (.at_ (.ref a) (.lst ds))), O, B, G, i0, ex, en0, ow⟩, ?_⟩
  rintro i m σ' H' ⟨rfl, hi, ρ', O', B', G', hI', e0, en2, ow2⟩
  obtain ⟨v1, hv1, rv1⟩ := en2.get (hI i ρ' O' B' hI')
  obtain ⟨ev, a', vs', ea, ha', hr'⟩ := rv1
  rw [ev] at ea
  cases ea
  have hq : SqL K H' a vs' := SqL.of (e0.sub _ _ ha')
  have hlen := hr'.length
  by_cases hlt : i < ds.length
  · refine .inr ⟨⟨vs', vs'[i], hq, by simp [show i < vs'.length by omega]⟩, PX K I G0 H0 B0 (i + 1), fun σ2 H2 p' => ⟨ds.length - (i + 1), by omega, rfl, hlt, p'⟩, fun y H'' hy => ?_⟩
    obtain ⟨eH, hy⟩ := hy
    subst eH
    obtain ⟨d, hdx, rx⟩ := hr'.get' (hy vs' hq)
    exact px_step hI' e0 en2 ow2 rx x q (hs i d ρ' O' B' hdx hI')
  · have e1 : i = ds.length := by omega
    subst e1
    exact .inl ⟨⟨vs', hq, by omega⟩, q.nx _ _ _ _ _ _ (hd _ _ _ hI') e0 en2 ow2⟩
end
end AW

set_option linter.all false
set_option maxRecDepth 100000
set_option maxHeartbeats 4000000
namespace AW
open PySem PySem.Spec PyProof.Rows L2 RZ LamX
variable [Tbs]
section
variable {K : PySem.W.Frag} {E E' : XK} {e : EW} {ρ : List (Option D)} {B : Int} {k : KD} {κ : KS} {κx : KX} {ta tb tc tl te ti : TE} {tt : TT} {t : TA} {s ts us tbody : TS} {g : TG} {i j n : Nat} {ds : List D} {O : List (Addr × OC)} {p : Addr} {l : List (List Key × D)} {es : List D} {r : R2}
end
end AW

set_option linter.all false
set_option maxRecDepth 100000
set_option maxHeartbeats 4000000
namespace AW
open PySem PySem.Spec PyProof.Rows L2 RZ LamX
variable [Tbs]
section
variable {K : PySem.W.Frag} {E E' E1 : XK} {e : EW} {ρ : List (Option D)} {B : Int} {k : KD} {ta tb tc : TE} {t : TA} {r r' : R2}
theorem RepL.intsV {G : Hp} : ∀ (ns : List Int) {vs : List V}, RepL K G B (ns.map D.int) vs → vs = ns.map V.int
  | [], _, h => h
  | z :: r, _, ⟨v, w, e, h1, h2⟩ => by rw [e, show v = _ from h1, RepL.intsV r h2]; rfl
/-- a op b op' c -/
theorem we_chain (h : We K E e ta ρ B fun d1 B1 => We K E e tb ρ B1 fun d2 B2 => Ro K E e r d1 d2 B2 fun z B3 => ∃ b, z = .bl b ∧ (b = true → We K E e tc ρ B3 fun d3 B4 => Ro K E e r' d2 d3 B4 k) ∧ (b = false → k (.bl false) B3)) : We K E e (tChain r r' ta tb tc) ρ B k := fun σ H G Q s en x q =>
  h σ H G _ s en x fun d1 v1 B1 G1 H1 h1 e1 r1 => h1 σ H1 G1 _ e1.sub (en.mono e1.le) (x.ext e1) fun d2 v2 B2 G2 H2 h2 e2 r2 =>
    h2 v1 v2 H2 G2 _ e2.sub (r1.mono e2.le) r2 (x.ext (e1.trans e2)) fun z w B3 G3 H3 ⟨b, ez, ht, hf⟩ e3 r3 => by
      subst ez
      refine ⟨b, r3, ?_⟩
      cases b with
      | true =>
        rw [if_pos rfl]
        exact ht rfl σ H3 G3 _ e3.sub (en.mono (e1.trans (e2.trans e3)).le) (x.ext (e1.trans (e2.trans e3))) fun d3 v3 B4 G4 H4 h4 e4 r4 => h4 v2 v3 H4 G4 Q e4.sub (r2.mono (e3.trans e4).le) r4 (x.ext (e1.trans (e2.trans (e3.trans e4)))) (q.ext (e1.trans (e2.trans (e3.trans e4))))
      | false =>
        rw [if_neg Bool.false_ne_true]
        exact q _ _ _ _ _ (hf rfl) (e1.trans (e2.trans e3)) rfl
end
end AW

set_option linter.all false
set_option maxRecDepth 100000
set_option maxHeartbeats 4000000
namespace AW
open PySem PySem.Spec PyProof.Rows L2 RZ LamX
variable [Tbs]
section
variable {K : PySem.W.Frag}
variable {E E' : XK} {e : EW} {ρ : List (Option D)} {B : Int} {k : KD} {κ : KS} {κx : KX} {ta tb tc tl te ti : TE} {tt : TT} {t : TA} {s ts us tbody : TS} {g : TG} {i j n : Nat} {ds : List D} {O : List (Addr × OC)} {p : Addr} {l : List (List Key × Int)} {es : List D}
end
end AW

set_option linter.all false
set_option maxRecDepth 100000
set_option maxHeartbeats 4000000
namespace AW
open PySem PySem.Spec PyProof.Rows L2 RZ LamX
variable [Tbs]
section
variable {K : PySem.W.Frag} {E E' : XK} {e : EW} {ρ : List (Option D)} {B : Int} {k : KD} {κ : KS} {ta tb tc : TE} {t : TA} {pr : Pr} {C : Addr} {kl : KL}
theorem we_prop (h : We K E e ta ρ B fun d B1 => ∃ ns fs, d = .ins C ns fs ∧ pr [d] B1 k noE) : We K E e (tProp C (spD K pr) [] E' ta) ρ B k := fun σ H G Q s en x q =>
  h σ H G _ s en x fun d v B1 G1 H1 ⟨ns, fs, ed, h1⟩ e1 r1 => by
    subst ed
    obtain ⟨a, dx, vs, rfl, ha, hl, hr⟩ := id r1
    exact ⟨a, dx, _, rfl, e1.sub _ _ ha, G1, [.ins C ns fs], B1, k, noE, e1.sub, ⟨_, _, rfl, r1, rfl⟩, h1, q.ext e1, XOk.no⟩
theorem wa_star (h : We K E e ta ρ B fun d B1 => ∃ ds, (d = .lst ds ∨ d = .tup ds) ∧ Wa K E e t ρ B1 fun es B2 => kl (ds ++ es) B2) : Wa K E e (StX.tStar K ta t) ρ B kl := fun σ H G Q s en x q =>
  h σ H G _ s en x fun d v B1 G1 H1 ⟨ds, ed, h1⟩ e1 r1 => by
    have : ∃ p us, v = .ref p ∧ (SqT K H1 p us ∨ SqL K H1 p us) ∧ RepL K G1 B1 ds us := by
      rcases ed with rfl | rfl
      · obtain ⟨p, us, rfl, hp, hr⟩ := r1
        exact ⟨p, us, rfl, .inr (SqL.of (e1.sub _ _ hp)), hr⟩
      · obtain ⟨p, us, rfl, hp, hr⟩ := r1
        exact ⟨p, us, rfl, .inl (hp.elim (fun z => .inl (z.elim (fun y => .inl (e1.sub _ _ y)) fun ⟨o, y⟩ => .inr ⟨o, e1.sub _ _ y⟩)) .inr), hr⟩
    obtain ⟨p, us, rfl, hp, hr⟩ := this
    exact ⟨p, us, rfl, hp, h1 σ H1 G1 _ e1.sub (en.mono e1.le) (x.ext e1) fun es ws B2 G2 H2 h2 e2 r2 => q _ _ _ _ _ h2 (e1.trans e2) ((hr.mono e2.le).append r2)⟩
end
def rDivmod : List V → Hp → VK → Prop := fun xs H Q => ∃ i j, xs = [.int i, .int j] ∧ CDivG i j ∧ ∀ p, H p = none → Q (.ref p) (upd H p (.tup [.int (i.fdiv j), .int (i.fmod j)]))
theorem call_divmodG {X : Cx} : CallR X (.builtin "divmod") rDivmod := by
  intro pins s σ H xs us Q I r h
  obtain ⟨i, j, rfl, ⟨h1, h2⟩, q⟩ := h
  obtain ⟨u, w', rfl, ⟨t, rfl⟩, ⟨t', rfl⟩⟩ := vals2 r
  refine divmod_int h1 ?_ (.inl (PyProof.noPylong_of_log2 h2))
  have hn : H s.heap.objs.size = none := I.hok.fresh (Nat.le_refl _)
  refine ⟨.ref s.heap.objs.size, _, ?_, rfl, q _ hn⟩
  refine I.laid (fun b o e => Heap.get?_push_of_some _ e) (Nat.le_refl _) ⟨by simp only [List.length_cons, List.length_nil]; rw [sizeLine_eq]; decide, [.int (i.fdiv j) s.toks, .int (i.fmod j) (s.toks + 1)], .cons ⟨_, rfl⟩ (.cons ⟨_, rfl⟩ .nil), ?_⟩
  exact ⟨_, Heap.get?_push_size s.heap rfl, rfl, 0, rfl⟩
theorem we_divmod {K : PySem.W.Frag} {E : XK} {e : EW} {ρ : List (Option D)} {B : Int} {k : KD} {t : TA} (h : Wa K E e t ρ B fun ds B1 => ∃ i j : Int, ds = [.int i, .int j] ∧ CDivG i j ∧ k (.tup [.int (i.fdiv j), .int (i.fmod j)]) B1) : We K E e (tCB rDivmod t) ρ B k :=
  we_cb fun σ H G Q s en x q => h σ H G Q s en x fun ds vs B1 G1 H1 ⟨i, j, ed, c, hk⟩ e1 r1 => q ds vs B1 G1 H1 (fun ws H2 G2 Q2 s2 r2 q2 => by
    subst ed
    obtain ⟨v, _, rfl, rv, u, _, rfl, ru, rfl⟩ := r2
    rw [show v = _ from rv, show u = _ from ru]
    exact ⟨i, j, rfl, c, fun p hp => q2 _ _ _ _ _ hk (Ext.new s2 hp) ⟨p, _, rfl, SqT.of upd_same, _, _, rfl, rfl, _, _, rfl, rfl, rfl⟩⟩) e1 r1
theorem sqt_up {K : PySem.W.Frag} {G H : Hp} {a : Addr} {xs : List V} (s : Sub G H) (h : SqT K G a xs) : SqT K H a xs := h.elim (fun z => .inl (z.elim (fun y => .inl (s _ _ y)) fun ⟨o, y⟩ => .inr ⟨o, s _ _ y⟩)) .inr
section
variable {K : PySem.W.Frag} {E E' : XK} {e : EW} {ρ : List (Option D)} {B : Int} {κx : KX} {tbody : TS} {g : TG} {i j n : Nat} {ds : List D} {O : List (Addr × OC)}
/-- for x in t, t a variable's tuple -/
theorem wx_for_tup (hj : ρ[j]? = some (some (.tup ds))) (h : ∀ u : V, ∃ I : IX, I 0 (ρ.set j (some (.at_ u (.tup ds)))) O B ∧ (∀ n ρ' O' B', I n ρ' O' B' → ρ'[j]? = some (some (.at_ u (.tup ds)))) ∧ (∀ n d ρ' O' B', ds[n]? = some d → I n ρ' O' B' → Wg K g d ρ' B' fun ρ2 B2 => WOw K E e tbody ρ2 B2 O' { nx := I (n + 1), rt := κx.rt, bk := κx.nx, ct := I (n + 1) }) ∧ ∀ ρ' O' B', I ds.length ρ' O' B' → κx.nx ρ' O' B') :
    WOw K E e (tFor (iTup K (tVar j)) g tbody) ρ B O κx := fun σ H G Dn G0 H0 B0 en ow ex x q => by
  obtain ⟨v0, hv0, a, vs, rfl, ha, hr⟩ := en.get hj
  obtain ⟨I, i0, hI, hs, hd⟩ := h (.ref a)
  have en0 := EnvR.set (d := .at_ (.ref a) (.tup ds)) (v := .ref a) ⟨rfl, a, vs, rfl, ha, hr⟩ j en
  rw [set_id hv0] at en0
  have ha2 : SqT K H a vs := sqt_up ex.sub ha
  refine ⟨.ref a, hv0, a, rfl, ⟨vs, ha2⟩, ?_⟩
  refine ⟨fun i m σ H => m = ds.length - i ∧ i ≤ ds.length ∧ PX K I G0 H0 B0 i σ H, ⟨ds.length, by simp, Nat.zero_le _, ρ.set j (some (.at_ (.ref a) (.tup ds))), O, B, G, i0, ex, en0, ow⟩, ?_⟩
  rintro i m σ' H' ⟨rfl, hi, ρ', O', B', G', hI', e0, en2, ow2⟩
  obtain ⟨v1, hv1, rv1⟩ := en2.get (hI i ρ' O' B' hI')
  obtain ⟨ev, a', vs', ea, ha', hr'⟩ := rv1
  rw [ev] at ea
  cases ea
  have hq : SqT K H' a vs' := sqt_up e0.sub ha'
  have hlen := hr'.length
  by_cases hlt : i < ds.length
  · refine .inr ⟨⟨vs', vs'[i], hq, by simp [show i < vs'.length by omega]⟩, PX K I G0 H0 B0 (i + 1), fun σ2 H2 p' => ⟨ds.length - (i + 1), by omega, rfl, hlt, p'⟩, fun y H'' hy => ?_⟩
    obtain ⟨eH, hy⟩ := hy
    subst eH
    obtain ⟨d, hdx, rx⟩ := hr'.get' (hy vs' hq)
    exact px_step hI' e0 en2 ow2 rx x q (hs i d ρ' O' B' hdx hI')
  · have e1 : i = ds.length := by omega
    subst e1
    exact .inl ⟨⟨vs', hq, by omega⟩, q.nx _ _ _ _ _ _ (hd _ _ _ hI') e0 en2 ow2⟩
/-- x = [e, ..], owned -/
theorem wx_newlistA {t : TA} (h : Wa K E e t ρ B fun ds B1 => ds.length ≤ sizeLine ∧ ∀ p, κx.nx (ρ.set i (some (.val (.ref p)))) ((p, .list ds) :: O) B1) : WOw K E e (tAsg (tLst t) (gName i)) ρ B O κx := fun σ H G Dn G0 H0 B0 en ow ex x q =>
  h σ H G _ ex.sub en (x.ext ex) fun ds vs B1 G1 H1 ⟨hl, hk⟩ e1 r1 => ⟨by rw [← r1.length]; exact hl, fun p hp => q.nx _ _ _ B1 G1 _ (hk p) ((ex.trans e1).trans (Ext.hid e1.sub hp)) (EnvR.set (d := .val (.ref p)) (v := .ref p) rfl i (en.mono e1.le)) (owns_cons (ow.ext e1) (ex.trans e1) hp ⟨vs, upd_same, r1⟩)⟩
end
/-- the type that every value of a D has -/
def TyD (K : PySem.W.Frag) (d : D) (t : Value) : Prop := ∀ v G H B, Sub G H → Rep K G B d v → TyX K H v t
theorem tyD_tup {K : PySem.W.Frag} {xs : List D} : TyD K (.tup xs) (.type "tuple") := fun v G H B s r => by
  obtain ⟨a, us, rfl, ha, hr⟩ := r
  have hb := (Le.of_sub (B := B) (B' := B) s (Int.le_refl _)).seqT ha
  rcases hb with (hb | ⟨o, hb⟩) | ⟨o, its, n, hk, hc, _⟩
  · exact .base (.tup hb)
  · exact .fTuple hb
  · exact .kTuple hk hc
theorem tyD_lst {K : PySem.W.Frag} {xs : List D} : TyD K (.lst xs) (.type "list") := fun v G H B s r => by
  obtain ⟨a, us, rfl, ha, hr⟩ := r
  exact .base (.lst (s _ _ ha))
theorem tyD_str {K : PySem.W.Frag} {z : Str} : TyD K (.str z) (.type "str") := fun v G H B s r => by
  rw [show v = _ from r]
  exact .base (.str _)
section
variable {K : PySem.W.Frag} {E : XK} {e : EW} {ρ : List (Option D)} {B : Int} {k : KD} {ta : TE} {t : Value} {b : Bool} {c1 c2 c3 : String}
/-- isinstance(x, (c1, c2)) -/
theorem we_isiT2 (h : We K E e ta ρ B fun d B1 => TyD K d t ∧ PySem.W.kitAny K t [.type c1, .type c2] = some b ∧ k (.bl b) B1) : We K E e (tCB (rIsiT K) (tCons ta (tCons (tTup (tCons (tC (.ty c1)) (tCons (tC (.ty c2)) tNil))) tNil))) ρ B k := fun σ H G Q s en x q =>
  h σ H G _ s en x fun d v B1 G1 H1 ⟨ht, hb, hk⟩ e1 r1 => ⟨Nat.le_trans (show 2 ≤ 3 from by decide) (by decide : 3 ≤ sizeLine), fun p hp => by
    have e2 := e1.trans (Ext.hid (o := .tup [.ty c1, .ty c2]) e1.sub hp)
    exact ⟨v, p, _, t, _, b, rfl, upd_same, .cons (.ty c1) (.cons (.ty c2) .nil), ht v G1 _ B1 e2.sub r1, hb, q _ _ _ _ _ hk e2 rfl⟩⟩
/-- isinstance(x, (c1, c2, c3)) -/
theorem we_isiT3 (h : We K E e ta ρ B fun d B1 => TyD K d t ∧ PySem.W.kitAny K t [.type c1, .type c2, .type c3] = some b ∧ k (.bl b) B1) : We K E e (tCB (rIsiT K) (tCons ta (tCons (tTup (tCons (tC (.ty c1)) (tCons (tC (.ty c2)) (tCons (tC (.ty c3)) tNil)))) tNil))) ρ B k := fun σ H G Q s en x q =>
  h σ H G _ s en x fun d v B1 G1 H1 ⟨ht, hb, hk⟩ e1 r1 => ⟨(by decide : 3 ≤ sizeLine), fun p hp => by
    have e2 := e1.trans (Ext.hid (o := .tup [.ty c1, .ty c2, .ty c3]) e1.sub hp)
    exact ⟨v, p, _, t, _, b, rfl, upd_same, .cons (.ty c1) (.cons (.ty c2) (.cons (.ty c3) .nil)), ht v G1 _ B1 e2.sub r1, hb, q _ _ _ _ _ hk e2 rfl⟩⟩
/-- isinstance(x, c) -/
theorem we_isi1 (h : We K E e ta ρ B fun d B1 => TyD K d t ∧ PySem.W.kitOne K t (.type c1) = some b ∧ k (.bl b) B1) : We K E e (tCB (rIsi K) (tCons ta (tCons (tC (.ty c1)) tNil))) ρ B k := fun σ H G Q s en x q =>
  h σ H G _ s en x fun d v B1 G1 H1 ⟨ht, hb, hk⟩ e1 r1 => ⟨v, _, t, _, b, rfl, .ty c1, ht v G1 _ B1 e1.sub r1, hb, q _ _ _ _ _ hk e1 rfl⟩
/-- isinstance(x, C), C an own class -/
theorem we_isiC {C : Addr} (h : We K E e ta ρ B fun d B1 => TyD K d t ∧ PySem.W.kitOne K t (.ref C) = some b ∧ k (.bl b) B1) : We K E e (tCB (rIsi K) (tCons ta (tCons (tC (.ref C)) tNil))) ρ B k := fun σ H G Q s en x q =>
  h σ H G _ s en x fun d v B1 G1 H1 ⟨ht, hb, hk⟩ e1 r1 => ⟨v, _, t, _, b, rfl, .own C, ht v G1 _ B1 e1.sub r1, hb, q _ _ _ _ _ hk e1 rfl⟩
theorem we_lenStr {ta : TA} (h : Wa K E e ta ρ B fun ds B1 => ∃ z : Str, ds = [.str z] ∧ z.length ≤ sizeLine ∧ k (.int z.length) B1) : We K E e (tCB (fun xs H Q => ∃ z, xs = [.str z] ∧ z.length ≤ sizeLine ∧ Q (.int z.length) H) ta) ρ B k :=
  we_cb fun σ H G Q s en x q => h σ H G Q s en x fun ds vs B1 G1 H1 ⟨z, ed, hz, hk⟩ e1 r1 => q ds vs B1 G1 H1 (fun ws H2 G2 Q2 s2 r2 q2 => by
    subst ed
    obtain ⟨v, _, rfl, rv, rfl⟩ := r2
    rw [show v = _ from rv]
    exact ⟨z, rfl, hz, q2 _ _ _ _ _ hk (Ext.refl s2) rfl⟩) e1 r1
theorem we_sum {ta : TA} (h : Wa K E e ta ρ B fun ds B1 => ∃ ns : List Int, ds = [.lst (ns.map D.int)] ∧ k (.int ns.sum) B1) : We K E e (tCB (rSum K) ta) ρ B k :=
  we_cb fun σ H G Q s en x q => h σ H G Q s en x fun ds vs B1 G1 H1 ⟨ns, ed, hk⟩ e1 r1 => q ds vs B1 G1 H1 (fun ws H2 G2 Q2 s2 r2 q2 => by
    subst ed
    obtain ⟨v, _, rfl, ⟨a, us, rfl, ha, hr⟩, rfl⟩ := r2
    have ev : us = ns.map V.int := RepL.intsV ns hr
    subst ev
    exact ⟨a, ns, rfl, SqL.of (s2 _ _ ha), q2 _ _ _ _ _ hk (Ext.refl s2) rfl⟩) e1 r1
end
section
variable {K : PySem.W.Frag} {E E' : XK} {e : EW} {ρ : List (Option D)} {B : Int} {κx : KX} {tbody : TS} {g : TG} {i j n : Nat} {ds : List D} {O : List (Addr × OC)} {C : Addr} {f : Str}
/-- for x in s.f, s a name whose object has one field, a tuple -/
theorem wx_for_fld (hj : ρ[j]? = some (some (.ins C [f] [.tup ds]))) (cl : Cls K C) (na : NoAttr K C f) (h : ∀ a : V, ∃ I : IX, I 0 (ρ.set j (some (.ins C [f] [.at_ a (.tup ds)]))) O B ∧ (∀ n ρ' O' B', I n ρ' O' B' → ρ'[j]? = some (some (.ins C [f] [.at_ a (.tup ds)]))) ∧ (∀ n d ρ' O' B', ds[n]? = some d → I n ρ' O' B' → Wg K g d ρ' B' fun ρ2 B2 => WOw K E e tbody ρ2 B2 O' { nx := I (n + 1), rt := κx.rt, bk := κx.nx, ct := I (n + 1) }) ∧ ∀ ρ' O' B', I ds.length ρ' O' B' → κx.nx ρ' O' B') :
    WOw K E e (tFor (iTup K (tFld K (tVar j) f)) g tbody) ρ B O κx := fun σ H G Dn G0 H0 B0 en ow ex x q => by
  obtain ⟨v0, hv0, s, dx, us, rfl, hs0, hl, hr0⟩ := en.get hj
  obtain ⟨v, _, rfl, ⟨a, vs, rfl, ha, hr⟩, rfl⟩ := hr0
  obtain ⟨I, i0, hI, hs, hd⟩ := h (.ref a)
  have en0 := EnvR.set (d := .ins C [f] [.at_ (.ref a) (.tup ds)]) (v := .ref s) ⟨s, dx, [.ref a], rfl, hs0, rfl, _, _, rfl, ⟨rfl, a, vs, rfl, ha, hr⟩, rfl⟩ j en
  rw [set_id hv0] at en0
  have ha2 : SqT K H a vs := sqt_up ex.sub ha
  refine ⟨.ref s, hv0, s, C, dx, _, .ref a, rfl, ex.sub _ _ hs0, cl, na, by simp [List.lookup], a, rfl, ⟨vs, ha2⟩, ?_⟩
  refine ⟨fun i m σ H => m = ds.length - i ∧ i ≤ ds.length ∧ PX K I G0 H0 B0 i σ H, ⟨ds.length, by simp, Nat.zero_le _, _, O, B, G, i0, ex, en0, ow⟩, ?_⟩
  rintro i m σ' H' ⟨rfl, hi, ρ', O', B', G', hI', e0, en2, ow2⟩
  obtain ⟨v1, hv1, s', dx', us', rfl, hs1, hl1, hr1⟩ := en2.get (hI i ρ' O' B' hI')
  obtain ⟨v, _, rfl, ⟨ev, a', vs', ea, ha', hr'⟩, rfl⟩ := hr1
  rw [ev] at ea
  cases ea
  have hq : SqT K H' a vs' := sqt_up e0.sub ha'
  have hlen := hr'.length
  by_cases hlt : i < ds.length
  · refine .inr ⟨⟨vs', vs'[i], hq, by simp [show i < vs'.length by omega]⟩, PX K I G0 H0 B0 (i + 1), fun σ2 H2 p' => ⟨ds.length - (i + 1), by omega, rfl, hlt, p'⟩, fun y H'' hy => ?_⟩
    obtain ⟨eH, hy⟩ := hy
    subst eH
    obtain ⟨d, hdx, rx⟩ := hr'.get' (hy vs' hq)
    exact px_step hI' e0 en2 ow2 rx x q (hs i d ρ' O' B' hdx hI')
  · have e1 : i = ds.length := by omega
    subst e1
    exact .inl ⟨⟨vs', hq, by omega⟩, q.nx _ _ _ _ _ _ (hd _ _ _ hI') e0 en2 ow2⟩
/-- tuple(x) of a tuple: itself -/
theorem we_tupleT {k : KD} {t : TA} (h : Wa K E e t ρ B fun as B1 => ∃ xs : List D, as = [.tup xs] ∧ k (.tup xs) B1) : We K E e (tCB (fun xs H Q => ∃ p ys, xs = [.ref p] ∧ ((SqL K H p ys ∧ ∀ l, H l = none → Q (.ref l) (upd H l (.tup ys))) ∨ (SqT K H p ys ∧ Q (.ref p) H))) t) ρ B k :=
  we_cb fun σ H G Q s en x q => h σ H G Q s en x fun ds vs B1 G1 H1 ⟨xs, ed, hk⟩ e1 r1 => q ds vs B1 G1 H1 (fun ws H2 G2 Q2 s2 r2 q2 => by
    subst ed
    obtain ⟨v, _, rfl, ⟨a, us, rfl, ha, hr⟩, rfl⟩ := r2
    exact ⟨a, us, rfl, .inr ⟨sqt_up s2 ha, q2 _ _ _ _ _ hk (Ext.refl s2) ⟨a, us, rfl, ha, hr⟩⟩⟩) e1 r1
end
end AW

set_option linter.all false
set_option maxRecDepth 100000
set_option maxHeartbeats 4000000
namespace AW
open PySem PySem.Spec PyProof.Rows L2 RZ LamX
variable [Tbs]
section
variable {K : PySem.W.Frag} {E E' : XK} {e : EW} {ρ : List (Option D)} {B : Int} {k : KD} {κ : KS} {κx : KX} {ta tb tc tl te ti : TE} {tt : TT} {t : TA} {s ts us tbody : TS} {g : TG} {i j n : Nat} {ds : List D} {O : List (Addr × OC)} {p : Addr} {es : List D}
theorem ro_neSt {i j : Str} (h : k (.bl (!decide (i = j))) B) : Ro K E e rNe (.str i) (.str j) B k := fun x y H G Q s r1 r2 _ q => by
  rw [show x = _ from r1, show y = _ from r2]
  refine ⟨rfl, ?_⟩
  rw [strs_eq]
  exact q _ _ _ _ _ h (Ext.refl s) rfl
end
end AW

set_option linter.all false
set_option maxRecDepth 100000
set_option maxHeartbeats 4000000
namespace AW
open PySem PySem.Spec PyProof.Rows L2 RZ LamX
variable [Tbs]
section
variable {K : PySem.W.Frag} {E E' : XK} {e : EW} {ρ : List (Option D)} {B : Int} {k : KD} {κ : KS} {κx : KX} {ta tb tc tl te ti : TE} {tt : TT} {t : TA} {s ts us tbody : TS} {g : TG} {i j n : Nat} {ds : List D} {O : List (Addr × OC)} {p : Addr} {es : List D}
end
section
variable {K : PySem.W.Frag} {E E' E1 : XK} {e : EW} {ρ : List (Option D)} {B : Int} {k : KD} {κ : KS} {ta tb tl te : TE} {t : TA} {i j : Nat}
end
end AW

set_option linter.all false
set_option maxRecDepth 100000
set_option maxHeartbeats 4000000
namespace AW
open PySem PySem.Spec PyProof.Rows L2 RZ LamX
variable [Tbs]
def gOr (t u : TG) : TG := fun v σ H Q => t v σ H Q ∨ u v σ H Q
theorem pg_or {X : Cx} {e : Expr} {t u : TG} (h1 : PG X e t) (h2 : PG X e u) : PG X e (gOr t u) := ⟨fun pins s σ H v w Q I r h => h.elim (h1.run pins s σ H v w Q I r) (h2.run pins s σ H v w Q I r)⟩
section
variable {K : PySem.W.Frag} {E E' E1 : XK} {e : EW} {ρ : List (Option D)} {B : Int} {k : KD} {κ : KS} {κx : KX} {ta tb tc tl te ti : TE} {tt : TT} {t : TA} {s ts us tbody : TS} {g g1 g2 : TG} {i j n sl : Nat} {ds : List D} {O : List (Addr × OC)} {p : Addr} {es : List D} {t1 t2 : TI}
theorem wg_orL {d : D} {k : KE'} (h : Wg K g1 d ρ B k) : Wg K (gOr g1 g2) d ρ B k := fun v σ H G Q s en r q => .inl (h v σ H G Q s en r q)
theorem wg_orR {d : D} {k : KE'} (h : Wg K g2 d ρ B k) : Wg K (gOr g1 g2) d ρ B k := fun v σ H G Q s en r q => .inr (h v σ H G Q s en r q)
theorem wx_orL (h : WOw K E e (tFor t1 g ts) ρ B O κx) : WOw K E e (tFor (iOr t1 t2) g ts) ρ B O κx := fun σ H G Dn G0 H0 B0 en ow ex x q => .inl (h σ H G Dn G0 H0 B0 en ow ex x q)
theorem wx_orR (h : WOw K E e (tFor t2 g ts) ρ B O κx) : WOw K E e (tFor (iOr t1 t2) g ts) ρ B O κx := fun σ H G Dn G0 H0 B0 en ow ex x q => .inr (h σ H G Dn G0 H0 B0 en ow ex x q)
theorem wx_for_seq (b : Bool) (hj : ρ[j]? = some (some (seqD b ds))) (h : ∀ u : V, ∃ I : IX, I 0 (ρ.set j (some (.at_ u (seqD b ds)))) O B ∧ (∀ n ρ' O' B', I n ρ' O' B' → ρ'[j]? = some (some (.at_ u (seqD b ds)))) ∧ (∀ n d ρ' O' B', ds[n]? = some d → I n ρ' O' B' → Wg K g d ρ' B' fun ρ2 B2 => WOw K E e tbody ρ2 B2 O' { nx := I (n + 1), rt := κx.rt, bk := κx.nx, ct := I (n + 1) }) ∧ ∀ ρ' O' B', I ds.length ρ' O' B' → κx.nx ρ' O' B') :
    WOw K E e (tFor (iOr (iList K (tVar j)) (iTup K (tVar j))) g tbody) ρ B O κx := by
  cases b with
  | false => exact wx_orL (wx_for_list hj h)
  | true => exact wx_orR (wx_for_tup hj h)
/-- text.strip(signs) -/
theorem we_stripC (h : We K E e ta ρ B fun d B1 => ∃ a : Str, d = .str a ∧ a.length ≤ sizeLine ∧ We K E e tb ρ B1 fun d2 B2 => ∃ b : Str, d2 = .str b ∧ k (.str (Txt.stripChars a b)) B2) :
    We K E e (tBM K "str" (fun x xs H Q => ∃ a b, x = .str a ∧ xs = [.str b] ∧ a.length ≤ sizeLine ∧ Q (.str (Txt.stripChars a b)) H) ta (tCons tb tNil)) ρ B k := fun σ H G Q s en x q =>
  h σ H G _ s en x fun d v B1 G1 H1 ⟨a, ed, hl, h1⟩ e1 r1 => by
    subst ed
    rw [show v = _ from r1]
    refine ⟨rfl, h1 σ H1 G1 _ e1.sub (en.mono e1.le) (x.ext e1) fun d2 w B2 G2 H2 ⟨b, ed2, hk⟩ e2 r2 => ?_⟩
    subst ed2
    rw [show w = _ from r2]
    exact ⟨a, b, rfl, rfl, hl, q _ _ _ _ _ hk (e1.trans e2) rfl⟩
/-- [f(c) for c in text], a long one -/
theorem we_lc_strL (h : We K E e te ρ B fun d B1 => ∃ (x : Str) (f : Str → D), d = .str x ∧ (chS x).length < sizeLine ∧
    (∀ c ∈ chS x, ∀ k' : KD, k' (f c) B1 → We K E1 noE tl ((ρ.set sl none).set sl (some (.str c))) B1 k') ∧ k (.lst ((chS x).map f)) B1) :
    We K E e (tLc (iStr te) (gName sl) tYes tl [sl]) ρ B k := fun σ H G Q s en x q =>
  h σ H G _ s en x fun d v B1 G1 H1 ⟨z, f, ed, hl, he, hk⟩ e1 r1 => by
    subst ed
    rw [show v = _ from r1]
    refine ⟨z, rfl, fun L nL => ?_⟩
    refine lc_it walk_str (fun n H' => LcOk K (fun out B' => out.length ≤ n ∧ (out = ((chS z).take n).map f ∧ B' = B1)) L G1 H1 B1 H') (lc_start e1.sub nL ⟨Nat.le_refl _, rfl, rfl⟩) (fun _ _ _ _ => trivial) ?_ ?_
    · intro n y H' H'' hn hz ⟨eH, c, hc, ey⟩
      subst eH ey
      have hcc := chS_get hc
      have hm := List.mem_of_getElem? hcc
      have hlt := (List.getElem?_eq_some_iff.mp hcc).1
      refine lc_step (E1 := E1) (ρ := ρ) (I := fun n out B' => out = ((chS z).take n).map f ∧ B' = B1) (d := .str ⟨#[c]⟩) nL e1.sub (en.mono e1.le) hz (by omega) rfl (fun out B' ⟨eo, eB⟩ => ?_)
      subst eB
      refine wt_yes ⟨fun _ => he _ hm _ ⟨?_, rfl⟩, fun h => nomatch h⟩
      rw [List.take_add_one, hcc, Option.toList_some, List.map_append, eo]; rfl
    · intro H' hz
      refine lc_end e1 nL hz (fun out B' ⟨_, eo, eB⟩ => ?_) q
      rw [← chS_len, List.take_length] at eo
      rw [eo, eB]
      exact hk
end
end AW

set_option linter.all false
set_option maxRecDepth 100000
set_option maxHeartbeats 4000000
namespace AW
open PySem PySem.Spec PyProof.Rows L2 RZ LamX
variable [Tbs]
section
variable {K : PySem.W.Frag} {E E' E1 : XK} {e : EW} {ρ : List (Option D)} {B : Int} {k : KD} {κ : KS} {κx : KX} {ta tb tc tl te ti : TE} {tt : TT} {t : TA} {s ts us tbody : TS} {g g1 g2 : TG} {i j n sl : Nat} {ds : List D} {O : List (Addr × OC)} {p : Addr} {es : List D} {t1 t2 : TI} {pr : Pr}
end
end AW

set_option linter.all false
set_option maxHeartbeats 2000000
namespace AW
open PySem PySem.Spec PyProof.Rows L2
variable [Tbs]
section
variable {P : Program} {w : World} {K : PySem.W.Frag} {mg : Str → Option Value} {base : Heap} {E E1 : XK} {e : EW} {ρ : List (Option D)} {B : Int} {k : KD} {tl te : TE} {tt : TT} {i j : Nat}
end
end AW

set_option linter.all false
set_option maxHeartbeats 2000000
namespace AW
open PySem PySem.Spec PyProof.Rows L2
variable [Tbs]
section
variable {P : Program} {w : World} {K : PySem.W.Frag} {mg : Str → Option Value} {base : Heap} {E E1 : XK} {e : EW} {ρ : List (Option D)} {B : Int} {k : KD} {ti : TE} {i j : Nat}
theorem ro_addS {a b : Str} (hz : a.length + b.length ≤ sizeLine) (h : k (.str (a ++ b)) B) : Ro K E e (fun x y H Q => ∃ i j, x = .str i ∧ y = .str j ∧ i.length + j.length ≤ sizeLine ∧ Q (.str (i ++ j)) H) (.str a) (.str b) B k := fun x y H G Q s r1 r2 _ q =>
  ⟨a, b, r1, r2, hz, q _ _ _ _ _ h (Ext.refl s) rfl⟩
end
end AW

set_option linter.all false
set_option maxHeartbeats 2000000
namespace AW
open PySem PySem.Spec PyProof.Rows L2
variable [Tbs]
section
variable {P : Program} {w : World} {K : PySem.W.Frag} {mg : Str → Option Value} {base : Heap} {E E1 : XK} {e : EW} {ρ : List (Option D)} {B : Int} {k : KD} {κ : KS} {t : TA} {g : TG} {tb tbody : TS}
theorem for_enumT {a : Addr} {xs : List V} {D : Ends} {σ : L2.St} {H : Hp} (Pv : Nat → L2.St → Hp → Prop) (h0 : Pv 0 σ H) (hq : ∀ i σ H, i ≤ xs.length → Pv i σ H → SqT K H a xs)
    (hs : ∀ i x b σ H, xs[i]? = some x → Pv i σ H → H b = none → g (.ref b) σ (upd H b (.tup [.int (i : Nat), x])) fun σ2 H2 => tb { D with nx := Pv (i + 1), ct := Pv (i + 1), bk := D.nx } σ2 H2) (hd : ∀ σ H, Pv xs.length σ H → D.nx σ H) :
    ∃ W : Nat → Nat → L2.St → Hp → Prop, (∃ m, W 0 m σ H) ∧ ∀ i m σ H, W i m σ H →
      ((IteT K a).stop i H ∧ D.nx σ H) ∨ ((IteT K a).go i H ∧ ∃ N : L2.St → Hp → Prop, (∀ σ' H', N σ' H' → ∃ m', m' < m ∧ W (i + 1) m' σ' H') ∧ ∀ x H', (IteT K a).yld i H x H' → g x σ H' fun σ2 H2 => tb { D with nx := N, ct := N, bk := D.nx } σ2 H2) := by
  refine ⟨fun i m σ H => m = xs.length - i ∧ i ≤ xs.length ∧ Pv i σ H, ⟨xs.length, by simp, Nat.zero_le _, h0⟩, ?_⟩
  rintro i m σ H ⟨rfl, hi, p⟩
  have qx := hq i σ H hi p
  by_cases hlt : i < xs.length
  · have hx : xs[i]? = some xs[i] := List.getElem?_eq_getElem hlt
    refine .inr ⟨⟨xs, _, qx, hx⟩, Pv (i + 1), fun σ' H' p' => ⟨xs.length - (i + 1), by omega, rfl, hlt, p'⟩, fun v H' y => ?_⟩
    obtain ⟨b, x', rfl, hb, rfl, f1⟩ := y
    exact hs i x' b σ H (f1 xs qx) p hb
  · have e : i = xs.length := by omega
    subst e
    exact .inl ⟨⟨xs, qx, Nat.le_refl _⟩, hd σ H p⟩
/-- for i, x in enumerate(tuple) -/
theorem ws_for_enumT (h : Wa K E e t ρ B fun as B1 => ∃ xs : List D, as = [.tup xs] ∧ ∃ I : Nat → KE', I 0 ρ B1 ∧ (∀ i x ρ' B', xs[i]? = some x → I i ρ' B' → Wg K g (.tup [.int (i : Nat), x]) ρ' B' fun ρ2 B2 => Ws K E e tbody ρ2 B2 { nx := I (i + 1), rt := κ.rt, bk := κ.nx, ct := I (i + 1) }) ∧ ∀ ρ' B', I xs.length ρ' B' → κ.nx ρ' B') :
    Ws K E e (tFor (iEnumT K t) g tbody) ρ B κ := fun σ H G Dn s en x q =>
  h σ H G _ s en x fun as vs B1 G1 H1 ⟨xs, ed, I, i0, hs, hd⟩ e1 r1 => by
    subst ed
    obtain ⟨_, _, rfl, ⟨a, us, rfl, ha, hr⟩, rfl⟩ := r1
    refine ⟨a, us, rfl, (Le.of_sub (B := B1) (B' := B1) e1.sub (Int.le_refl _)).seqT ha, ?_⟩
    refine for_enumT (xs := us) (fun i σ' H' => ∃ ρ' B' G', I i ρ' B' ∧ Ext G1 H1 B1 G' H' B' ∧ EnvR K G' B' ρ' σ') ⟨ρ, B1, G1, i0, Ext.refl e1.sub, en.mono e1.le⟩ (fun i σ' H' _ ⟨_, _, G', _, e2, _⟩ => (Le.of_sub (B := B1) (B' := B1) e2.sub (Int.le_refl _)).seqT (e2.le.seqT ha)) ?_ ?_
    · rintro i v T σ' H' hi ⟨ρ', B', G', hI, e2, en2⟩ hT
      obtain ⟨dx, hdx, rx⟩ := hr.get' hi
      have e3 := Ext.new (B := B') (o := .tup [.int (i : Nat), v]) e2.sub hT
      refine hs i dx ρ' B' hdx hI (.ref T) σ' _ _ _ e3.sub (en2.mono e3.le) ⟨T, [.int (i : Nat), v], rfl, SqT.of upd_same, .int (i : Nat), [v], rfl, rfl, v, [], rfl, (rx.mono e2.le).mono e3.le, rfl⟩ fun ρ2 σ2 B2 G2 H2 h2 e4 en4 => ?_
      have eA := e1.trans ((e2.trans e3).trans e4)
      exact h2 σ2 H2 G2 _ e4.sub en4 (x.ext eA) ⟨fun ρ3 σ3 B3 G3 H3 h3 e5 en5 => ⟨ρ3, B3, G3, h3, ((e2.trans e3).trans e4).trans e5, en5⟩, q.rt.ext eA, q.nx.ext eA, fun ρ3 σ3 B3 G3 H3 h3 e5 en5 => ⟨ρ3, B3, G3, h3, ((e2.trans e3).trans e4).trans e5, en5⟩⟩
    · rintro σ' H' ⟨ρ', B', G', hI, e2, en2⟩
      rw [← hr.length] at hI
      exact q.nx _ _ _ _ _ (hd _ _ hI) (e1.trans e2) en2
end
end AW

set_option linter.all false
set_option maxHeartbeats 2000000
namespace AW
open PySem PySem.Spec PyProof.Rows L2
variable [Tbs]
section
variable {P : Program} {w : World} {K : PySem.W.Frag} {mg : Str → Option Value} {base : Heap} {E E1 : XK} {e : EW} {ρ : List (Option D)} {B : Int} {k : KD} {ta tb tc ti : TE}
end
end AW

set_option linter.all false
set_option maxHeartbeats 2000000
namespace AW
open PySem PySem.Spec PyProof.Rows L2
variable [Tbs]
section
variable {P : Program} {w : World} {K : PySem.W.Frag} {mg : Str → Option Value} {base : Heap} {E E1 : XK} {e : EW} {ρ : List (Option D)} {B : Int} {k : KD} {ta tb tc ti : TE}
end
end AW

set_option linter.all false
set_option maxHeartbeats 2000000
namespace AW
open PySem PySem.Spec PyProof.Rows L2
variable [Tbs]
section
variable {P : Program} {w : World} {K : PySem.W.Frag} {mg : Str → Option Value} {base : Heap} {E E1 : XK} {e : EW} {ρ : List (Option D)} {B : Int} {k : KD} {κ : KS} {ta tb tc ti : TE} {i : Nat}
end
end AW

set_option linter.all false
set_option maxRecDepth 100000
set_option maxHeartbeats 4000000
namespace AW
open PySem PySem.Spec PyProof.Rows L2 RZ LamX
variable [Tbs]
section
variable {K : PySem.W.Frag}
variable {E E' : XK} {e : EW} {ρ : List (Option D)} {B : Int} {k : KD} {κ : KS} {κx : KX} {ta tb tc tl te ti : TE} {tt : TT} {t : TA} {s ts us tbody : TS} {g : TG} {i j n m sl : Nat} {ds : List D} {O : List (Addr × OC)} {p a : Addr} {es : List D}
end
end AW
namespace AW
open PySem PySem.Spec PyProof.Rows L2 RZ LamX
variable [Tbs]
end AW

set_option linter.all false
set_option maxRecDepth 100000
set_option maxHeartbeats 4000000
namespace AW
open PySem PySem.Spec PyProof.Rows L2 RZ LamX
variable [Tbs]
section
variable {K : PySem.W.Frag} {E E' : XK} {e : EW} {ρ : List (Option D)} {B : Int} {k : KD} {κ : KS} {κx : KX} {ta tb tc td tl te ti : TE} {tt : TT} {t : TA} {s ts us tbody : TS} {g : TG} {i j n m sl : Nat} {ds : List D} {O : List (Addr × OC)} {p a : Addr} {es : List D}
end
end AW

set_option linter.all false
set_option maxRecDepth 100000
set_option maxHeartbeats 4000000
namespace AW
open PySem PySem.Spec PyProof.Rows L2 RZ LamX
variable [Tbs]
section
variable {K : PySem.W.Frag}
variable {E E' : XK} {e : EW} {ρ : List (Option D)} {B : Int} {k : KD} {κ : KS} {κx : KX} {ta tb tc td tl te ti : TE} {tt : TT} {t : TA} {s ts us tbody : TS} {g : TG} {i j n m sl s1 s2 : Nat} {ds : List D} {O : List (Addr × OC)} {p a : Addr} {es : List D} {l : List (List L2.Key × D)}
end
end AW

set_option linter.all false
set_option maxRecDepth 100000
set_option maxHeartbeats 4000000
namespace AW
open PySem PySem.Spec PyProof.Rows L2 RZ LamX
variable [Tbs]
section
variable {K : PySem.W.Frag} {E E' : XK} {e : EW} {ρ : List (Option D)} {B : Int} {k : KD} {κ : KS} {κx : KX} {ta tb tc td tl te ti : TE} {tt : TT} {t : TA} {s ts us tbody : TS} {g : TG} {i j n m sl s1 s2 : Nat} {ds : List D} {O : List (Addr × OC)} {p a : Addr} {es : List D} {l : List (List L2.Key × D)}
end
end AW
namespace AW
open PySem PySem.Spec PyProof.Rows L2 RZ LamX
variable [Tbs]
end AW

set_option linter.all false
set_option maxRecDepth 100000
set_option maxHeartbeats 4000000
namespace AW
open PySem PySem.Spec PyProof.Rows L2 RZ LamX
variable [Tbs]
section
variable {K : PySem.W.Frag} {E E' : XK} {e : EW} {ρ : List (Option D)} {B : Int} {k : KD} {κ : KS} {ta tb tc : TE} {pr : Pr}
end
end AW
namespace AW
open PySem PySem.Spec PyProof.Rows L2 RZ LamX
variable [Tbs]
end AW

set_option linter.all false
set_option maxRecDepth 100000
set_option maxHeartbeats 4000000
namespace AW
open PySem PySem.Spec PyProof.Rows L2 RZ LamX
variable [Tbs]
abbrev OwL := List (Addr × OC)
abbrev KW := D → OwL → Int → Prop
abbrev KWL := List D → OwL → Int → Prop
abbrev KWB := Bool → OwL → Int → Prop
def KWOk (K : PySem.W.Frag) (k : KW) (Q : VK) (G : Hp) (B : Int) (G0 H0 : Hp) (B0 : Int) : Prop := ∀ d v O' B' G' H', k d O' B' → Le G B G' B' → Ext G0 H0 B0 G' H' B' → Rep K G' B' d v → Owns K G0 H0 G' H' B' O' → Q v H'
/-- an expression that may change what is owned -/
def WeW (K : PySem.W.Frag) (E : XK) (e : EW) (t : TE) (ρ : List (Option D)) (B : Int) (O : OwL) (k : KW) : Prop :=
  ∀ σ H G G0 H0 B0 Q, EnvR K G B ρ σ → Owns K G0 H0 G H B O → Ext G0 H0 B0 G H B → XOk K E e G0 H0 B0 → KWOk K k Q G B G0 H0 B0 → t σ H Q
def WaW (K : PySem.W.Frag) (E : XK) (e : EW) (t : TA) (ρ : List (Option D)) (B : Int) (O : OwL) (k : KWL) : Prop :=
  ∀ σ H G G0 H0 B0 Q, EnvR K G B ρ σ → Owns K G0 H0 G H B O → Ext G0 H0 B0 G H B → XOk K E e G0 H0 B0 →
    (∀ ds vs O' B' G' H', k ds O' B' → Le G B G' B' → Ext G0 H0 B0 G' H' B' → RepL K G' B' ds vs → Owns K G0 H0 G' H' B' O' → Q vs H') → t σ H Q
section
variable {K : PySem.W.Frag} {E E' : XK} {e : EW} {ρ : List (Option D)} {B : Int} {κ : KS} {κx : KX} {ta tb tc tl te : TE} {t : TA} {c : TT} {s ts us tbody : TS} {g : TG} {i j n : Nat} {O : OwL} {p : Addr} {es : List D} {pr : Pr} {k : KW}
theorem wew_we (h : We K E e ta ρ B fun d B1 => k d O B1) : WeW K E e ta ρ B O k := fun σ H G G0 H0 B0 Q en ow ex x q =>
  h σ H G Q ex.sub en (x.ext ex) fun d v B1 G1 H1 hk e1 r1 => q d v O B1 G1 H1 hk e1.le (ex.trans e1) r1 (ow.ext e1)
theorem WeW.imp {k' : KW} (h : WeW K E e ta ρ B O k) (f : ∀ d O' B', k d O' B' → k' d O' B') : WeW K E e ta ρ B O k' := fun σ H G G0 H0 B0 Q en ow ex x q => h σ H G G0 H0 B0 Q en ow ex x fun d v O' B' G' H' hk => q d v O' B' G' H' (f d O' B' hk)
theorem waw_nil {k : KWL} (h : k [] O B) : WaW K E e tNil ρ B O k := fun σ H G G0 H0 B0 Q en ow ex x q => q _ _ _ _ _ _ h (Le.refl _ _) ex rfl ow
theorem waw_cons {k : KWL} (h : WeW K E e ta ρ B O fun a O1 B1 => WaW K E e t ρ B1 O1 fun ds O2 B2 => k (a :: ds) O2 B2) : WaW K E e (tCons ta t) ρ B O k := fun σ H G G0 H0 B0 Q en ow ex x q =>
  h σ H G G0 H0 B0 _ en ow ex x fun a v O1 B1 G1 H1 h1 l1 ex1 r1 ow1 => h1 σ H1 G1 G0 H0 B0 _ (en.mono l1) ow1 ex1 x fun ds vs O2 B2 G2 H2 h2 l2 ex2 r2 ow2 => q _ _ _ _ _ _ h2 (l1.trans l2) ex2 ⟨v, vs, rfl, r1.mono l2, r2⟩ ow2
open Classical in
/-- the heap without what is owned -/
noncomputable def hide (O : OwL) (H : Hp) : Hp := fun a => if a ∈ O.map Prod.fst then none else H a
theorem hide_in {H : Hp} {a : Addr} (h : a ∈ O.map Prod.fst) : hide O H a = none := by unfold hide; rw [if_pos h]
theorem hide_out {H : Hp} {a : Addr} (h : a ∉ O.map Prod.fst) : hide O H a = H a := by unfold hide; rw [if_neg h]
theorem hide_ext {G H : Hp} (s : Sub G H) (h : ∀ x ∈ O, G x.1 = none) : Ext G (hide O H) B G H B := ⟨Le.refl _ _, s, fun a o z n t => by
  by_cases q : a ∈ O.map Prod.fst
  · rw [hide_in q] at z; cases z
  · rw [hide_out q] at z; exact ⟨z, n⟩⟩
theorem hide_owns {G H : Hp} (h : (O.map Prod.fst).Nodup ∧ ∀ x ∈ O, G x.1 = none ∧ Own1 K G H B x.1 x.2) : Owns K G (hide O H) G H B O := ⟨h.1, fun x hx => ⟨(fun o z _ _ => by
  rw [hide_in (List.mem_map_of_mem hx)] at z
  cases z), h.2 x hx⟩⟩
variable {kb : KWB}
structure KY where
  nx : List (Option D) → OwL → Int → Prop := fun _ _ _ => False
  rt : KW
variable {κy : KY}
end
end AW

set_option linter.all false
set_option maxRecDepth 100000
set_option maxHeartbeats 4000000
namespace AW
open PySem PySem.Spec PyProof.Rows L2 RZ LamX
variable [Tbs]
theorem putF_new {f : Str} {v : V} : ∀ {ns : List Str} {vs : List V}, ns.length = vs.length → (∀ n ∈ ns, n ≠ f) → putF f v (ns.zip vs) = (ns ++ [f]).zip (vs ++ [v])
  | [], [], _, _ => rfl
  | [], _ :: _, h, _ => nomatch h
  | _ :: _, [], h, _ => nomatch h
  | n :: ns, u :: vs, h, hn => by
    have e := putF_new (v := v) (Nat.succ.inj h) fun m hm => hn m (List.mem_cons_of_mem _ hm)
    have ne := hn n (List.mem_cons_self ..)
    show putF f v ((n, u) :: ns.zip vs) = _
    unfold putF
    first
      | rw [if_neg ne, e]; rfl
      | rw [if_neg (Ne.symm ne), e]; rfl
      | (simp [ne, e]; done)
      | (simp [Ne.symm ne, e]; done)
theorem look_obj {G : Hp} {B : Int} {K : PySem.W.Frag} {f : Str} {d : D} : ∀ {fs : List (Str × D)} {vs : List V}, RepL K G B (fs.map (·.2)) vs → fs.lookup f = some d → ∃ v, ((fs.map (·.1)).zip vs).lookup f = some v ∧ Rep K G B d v
  | [], _, _, h => by simp at h
  | (n, d0) :: fs, _, ⟨v0, vr, rfl, h0, h1⟩, h => by
    rw [List.lookup_cons] at h
    show ∃ v, ((n, v0) :: (fs.map (·.1)).zip vr).lookup f = some v ∧ _
    rw [List.lookup_cons]
    cases hq : (f == n) with
    | true => rw [hq] at h; exact ⟨v0, rfl, by cases h; exact h0⟩
    | false => rw [hq] at h; exact look_obj h1 h
section
variable {K : PySem.W.Frag} {E E' : XK} {e : EW} {ρ : List (Option D)} {B : Int} {κ : KS} {κx : KX} {ta tb tc tl te : TE} {t : TA} {c : TT} {s ts us tbody : TS} {g : TG} {i j n : Nat} {O : OwL} {p : Addr} {es : List D} {pr : Pr} {k : KW}
/-- self.f, self owned -/
theorem wew_fldS {f : Str} {C dx : Addr} {fs : List (Str × D)} {d : D} (hi : ρ[i]? = some (some (.val (.ref p)))) (hn : O[n]? = some (p, .obj C dx fs)) (hc : Cls K C) (ha : NoAttr K C f) (hf : fs.lookup f = some d) (hk : k d O B) : WeW K E e (tFld K (tVar i) f) ρ B O k := fun σ H G G0 H0 B0 Q en ow ex x q => by
  obtain ⟨v0, hv0, e0⟩ := en.get hi
  rw [show v0 = _ from e0] at hv0
  obtain ⟨_, _, vs, hL, hr⟩ := own_at ow hn
  obtain ⟨v, h1, h2⟩ := look_obj hr hf
  exact ⟨.ref p, hv0, p, C, dx, _, v, rfl, hL, hc, ha, h1, q _ _ _ _ _ _ hk (Le.refl _ _) ex h2 ow⟩
/-- self.f = x -/
theorem wx_fldS {f : Str} {C dx : Addr} (hi : ρ[i]? = some (some (.val (.ref p)))) (h : WeW K E e ta ρ B O fun d O1 B1 => ∃ (n : Nat) (fs : List (Str × D)), O1[n]? = some (p, .obj C dx fs) ∧ Cls K C ∧ NoAttr K C f ∧ fs.length < 1000 ∧ (∀ q ∈ fs.map (·.1), q ≠ f) ∧ κx.nx ρ (O1.set n (p, .obj C dx (fs ++ [(f, d)]))) B1) : WOw K E e (sFld K (tVar i) ta f) ρ B O κx := fun σ H G Dn G0 H0 B0 en ow ex x q => by
  obtain ⟨v0, hv0, e0⟩ := en.get hi
  rw [show v0 = _ from e0] at hv0
  refine h σ H G G0 H0 B0 _ en ow ex x fun d w O1 B1 G1 H1 ⟨n, fs, hn, hc, ha, hl, hf, hk⟩ l1 ex1 r1 ow1 => ?_
  obtain ⟨np, gp, vs, hL, hr⟩ := own_at ow1 hn
  have hlen := hr.length
  rw [List.length_map] at hlen
  refine ⟨.ref p, hv0, p, C, dx, _, rfl, hL, hc, ha, ?_, ?_⟩
  · rw [List.length_zip, List.length_map]; omega
  · rw [putF_new (by rw [List.length_map]; exact hlen) hf]
    exact q.nx _ _ σ B1 G1 _ hk (ex1.chgN np gp) (en.mono l1) (owns_set ow1 hn ⟨vs ++ [w], by rw [upd_same, List.map_append]; rfl, by rw [List.map_append]; exact hr.append ⟨w, [], rfl, r1, rfl⟩⟩)
theorem hide1 {p : Addr} {o : OC} {H : Hp} {a : Addr} (h : a ≠ p) : hide [(p, o)] H a = H a := hide_out (by simpa using h)
/-- the run of an __init__'s body -/
theorem run_init {C dx : Addr} {G H : Hp} {ds : List D} {ws : List V} {N : List Str} {Q : VK} {kf : List (Str × D) → OwL → Int → Prop} (hp : H p = some (.ins C dx [])) (gp : G p = none) (hs : Sub G H) (hr : RepL K G B ds ws) (hN : startD N (.val (.ref p) :: ds) = ρ)
    (hQ : ∀ fs us O' B' G' H', kf fs O' B' → Ext G (hide [(p, .obj C dx [])] H) B G' H' B' → G' p = none → H' p = some (.ins C dx ((fs.map (·.1)).zip us)) → RepL K G' B' (fs.map (·.2)) us → Owns K G (hide [(p, .obj C dx [])] H) G' H' B' O' → p ∉ O'.map Prod.fst → Q .non H')
    (h : WOw K E0 noE ts ρ B [(p, .obj C dx [])] { nx := fun _ O' B' => ∃ (n : Nat) (fs : List (Str × D)), O'[n]? = some (p, .obj C dx fs) ∧ kf fs (O'.eraseIdx n) B', rt := fun _ _ => False }) :
    ts { nx := fun _ H' => Q .non H', rt := Q } (L2.start N (.ref p :: ws)) H := by
  subst hN
  have ho : (([(p, OC.obj C dx [])] : OwL).map Prod.fst).Nodup ∧ ∀ x ∈ ([(p, OC.obj C dx [])] : OwL), G x.1 = none ∧ Own1 K G H B x.1 x.2 := ⟨by simp, fun x hx => by
    rw [List.mem_singleton] at hx
    subst hx
    exact ⟨gp, [], hp, rfl⟩⟩
  refine h _ H G _ G (hide [(p, .obj C dx [])] H) B ?_ (hide_owns ho) (hide_ext hs fun x hx => (ho.2 x hx).1) XOk.no ⟨fun ρ' O' σ' B' G' H' ⟨n, fs, hn, hk⟩ ex' en' ow' => ?_, fun _ _ _ _ _ z => z.elim, fun _ _ _ _ _ _ z => z.elim, fun _ _ _ _ _ _ z => z.elim⟩
  · unfold startD L2.start
    rw [show (D.val (.ref p) :: ds).length = (V.ref p :: ws).length by rw [List.length_cons, List.length_cons, hr.length]]
    exact EnvR.of_vals _ ⟨_, _, rfl, rfl, hr⟩
  · obtain ⟨_, g2, us, h2, hr2⟩ := own_at ow' hn
    have hsub : (O'.eraseIdx n).Sublist O' := List.eraseIdx_sublist ..
    refine hQ fs us _ B' G' H' hk ex' g2 h2 hr2 ⟨ow'.nd.sublist (hsub.map _), fun y hy => ow'.at_ y (hsub.subset hy)⟩ ?_
    intro hm
    have hl := (List.getElem?_eq_some_iff.mp hn).1
    rw [List.eraseIdx_eq_take_drop_succ, List.map_append] at hm
    have nd := ow'.nd
    have e : O' = O'.take n ++ (p, .obj C dx fs) :: O'.drop (n + 1) := by
      have h1 := (List.take_append_drop n O').symm
      rw [List.drop_eq_getElem_cons hl] at h1
      have h3 : O'[n] = (p, .obj C dx fs) := (List.getElem?_eq_some_iff.mp hn).2
      rw [h3] at h1
      exact h1
    rw [e, List.map_append, List.map_cons, List.nodup_append] at nd
    rcases List.mem_append.mp hm with h | h
    · exact nd.2.2 _ h p (List.mem_cons_self ..) rfl
    · exact (List.nodup_cons.mp nd.2.1).1 h
end
end AW

set_option linter.all false
set_option maxRecDepth 100000
set_option maxHeartbeats 4000000
namespace AW
open PySem PySem.Spec PyProof.Rows L2 RZ LamX
variable [Tbs]
section
variable {K : PySem.W.Frag} {E E1 : XK} {e : EW} {ρ : List (Option D)} {B : Int} {κx : KX} {κy : KY} {tl te : TE} {s : TS} {i sl : Nat} {O O' : OwL} {p : Addr} {es : List D} {k : KW}
variable {ta tb : TE} {t : TA} {c : TT}
end
end AW

set_option linter.all false
set_option maxRecDepth 100000
set_option maxHeartbeats 4000000
namespace AW
open PySem PySem.Spec PyProof.Rows L2 RZ LamX
variable [Tbs]
section
variable {K : PySem.W.Frag} {E E1 : XK} {e : EW} {ρ : List (Option D)} {B : Int} {k : KD} {t : TA}
end
section
variable {X : Cx} {a : Expr} {ta : TE}
end
end AW

set_option linter.all false
set_option maxRecDepth 100000
set_option maxHeartbeats 4000000
namespace AW
open PySem PySem.Spec PyProof.Rows L2 RZ LamX
variable [Tbs]
section
variable {K : PySem.W.Frag} {E E1 : XK} {e : EW} {ρ : List (Option D)} {B : Int} {κ : KS} {ta tb : TE} {us : TS} {i : Nat}
end
end AW

set_option linter.all false
set_option maxRecDepth 100000
set_option maxHeartbeats 8000000
namespace AW
open PySem PySem.Spec PyProof.Rows L2
variable [Tbs]
section
variable {K : PySem.W.Frag} {E : XK} {e : EW} {ρ : List (Option D)} {B : Int}
end
end AW

set_option linter.all false
set_option maxRecDepth 100000
set_option maxHeartbeats 4000000
namespace AW
open PySem PySem.Spec PyProof.Rows L2 RZ
variable [Tbs]
section
variable {K : PySem.W.Frag} {E E1 : XK} {e : EW} {ρ : List (Option D)} {B : Int} {k : KD} {tl te tx : TE} {sO sI : Nat}
end
end AW

set_option linter.all false
set_option maxRecDepth 100000
set_option maxHeartbeats 4000000
namespace AW
open PySem PySem.Spec PyProof.Rows L2 RZ LamX
variable [Tbs]
section
variable {K : PySem.W.Frag} {E E' E1 : XK} {e : EW} {ρ : List (Option D)} {B : Int} {k : KD} {κ : KS} {κx : KX} {ta tb tl te : TE} {t : TA} {ts us : TS} {i j n : Nat} {O : OwL} {p : Addr} {es : List D}
end
end AW

set_option linter.all false
set_option maxRecDepth 100000
set_option maxHeartbeats 4000000
namespace AW
open PySem PySem.Spec PyProof.Rows L2 RZ LamX
variable [Tbs]
section
variable {K : PySem.W.Frag} {E E' E1 : XK} {e : EW} {ρ : List (Option D)} {B : Int} {k : KW} {κ : KS} {κx : KX} {ta tb tl te : TE} {t : TA} {s ts us : TS} {i j n : Nat} {O : OwL} {p a : Addr} {es ds : List D}
end
end AW

set_option linter.all false
set_option maxRecDepth 100000
set_option maxHeartbeats 4000000
namespace AW
open PySem PySem.Spec PyProof.Rows L2 RZ LamX
variable [Tbs]
end AW

set_option linter.all false
set_option maxHeartbeats 2000000
namespace AW
open PySem PySem.Spec PyProof.Rows L2
variable [Tbs]
section
variable {P : Program} {w : World} {K : PySem.W.Frag} {mg : Str → Option Value} {base : Heap} {E E' : XK} {e : EW} {ρ : List (Option D)} {B : Int} {k : KD} {κ : KS} {t : TA} {i : Nat}
end
end AW

set_option linter.all false
set_option maxRecDepth 100000
set_option maxHeartbeats 4000000
namespace AW
open PySem PySem.Spec PyProof.Rows L2 RZ LamX
variable [Tbs]
section
variable {K : PySem.W.Frag} {E E' E1 : XK} {e : EW} {ρ : List (Option D)} {B : Int} {κ : KS} {κx : KX} {ta tb tl te : TE} {t : TA} {ts us : TS} {i j n : Nat} {O : OwL} {p : Addr} {es : List D} {k : KW}
end
end AW

set_option linter.all false
set_option maxHeartbeats 2000000
namespace AW
open PySem PySem.Spec PyProof.Rows L2
variable [Tbs]
section
variable {P : Program} {w : World} {K : PySem.W.Frag} {mg : Str → Option Value} {base : Heap} {E E1 : XK} {e : EW} {ρ : List (Option D)} {B : Int} {k : KD} {κ : KS} {t tk : TA} {te ta : TE} {tt : TT} {i j : Nat} {g1 g2 g3 : TG}
end
end AW

set_option linter.all false
set_option maxHeartbeats 2000000
namespace AW
open PySem PySem.Spec PyProof.Rows L2
variable [Tbs]
section
variable {P : Program} {w : World} {K : PySem.W.Frag} {mg : Str → Option Value} {base : Heap} {E E1 : XK} {e : EW} {ρ : List (Option D)} {B : Int} {O : OwL} {k : KW} {κx : KX} {t : TA} {te tl : TE} {tt : TT} {g : TG} {tbody : TS}
end
end AW

set_option linter.all false
set_option maxRecDepth 100000
set_option maxHeartbeats 4000000
namespace AW
open PySem PySem.Spec PyProof.Rows L2 RZ LamX
variable [Tbs]
section
variable {K : PySem.W.Frag} {E E' : XK} {e : EW} {ρ : List (Option D)} {B : Int} {k : KD} {κ : KS} {κx : KX} {ta tb tc tl te ti : TE} {tt : TT} {t : TA} {s ts us tbody : TS} {g : TG} {i j n : Nat} {O : List (Addr × OC)} {p : Addr}
end
end AW

set_option linter.all false
set_option maxRecDepth 100000
set_option maxHeartbeats 4000000
namespace AW
open PySem PySem.Spec PyProof.Rows L2
variable [Tbs]
section
variable {K : PySem.W.Frag} {E E' : XK} {e : EW} {ρ : List (Option D)} {B : Int} {k : KD} {t : TA}
/-- min(a, b) of tuples of ints -/
theorem we_min2T (h : Wa K E e t ρ B fun as B1 => ∃ n1 n2 : List Int, as = [.tup (n1.map D.int), .tup (n2.map D.int)] ∧ (HT.lexLt n2 n1 = false → k (.tup (n1.map D.int)) B1) ∧ (HT.lexLt n1 n2 = false → k (.tup (n2.map D.int)) B1)) : We K E e (tCB (RM.rMin2T K) t) ρ B k :=
  we_cb fun σ H G Q s en x q => h σ H G Q s en x fun ds vs B1 G1 H1 ⟨n1, n2, ed, h1, h2⟩ e1 r1 => q ds vs B1 G1 H1 (fun ws H2 G2 Q2 s2 r2 q2 => by
    subst ed
    obtain ⟨v1, _, rfl, ra, v2, _, rfl, rb, rfl⟩ := r2
    have rA := ra
    have rB := rb
    obtain ⟨t1, z1, rfl, ha, hz1⟩ := ra
    obtain ⟨t2, z2, rfl, hb, hz2⟩ := rb
    rw [RepL.ints_inv hz1] at ha
    rw [RepL.ints_inv hz2] at hb
    refine ⟨.ref t1, .ref t2, n1, n2, rfl, ⟨t1, rfl, (Le.of_sub (B := B1) (B' := B1) s2 (Int.le_refl _)).seqT ha⟩, ⟨t2, rfl, (Le.of_sub (B := B1) (B' := B1) s2 (Int.le_refl _)).seqT hb⟩, fun z => q2 _ _ _ _ _ (h1 z) (Ext.refl s2) rA, fun z => q2 _ _ _ _ _ (h2 z) (Ext.refl s2) rB⟩) e1 r1
/-- max(a, b) where things are owned -/
theorem wew_max2 {O : OwL} {k : KW} (h : WaW K E e t ρ B O fun ds O1 B1 => ∃ i j : Int, ds = [.int i, .int j] ∧ k (.int (if j > i then j else i)) O1 B1) : WeW K E e (tCB (fun xs H Q => ∃ i j, xs = [.int i, .int j] ∧ Q (.int (if j > i then j else i)) H) t) ρ B O k := fun σ H G G0 H0 B0 Q en ow ex x q =>
  h σ H G G0 H0 B0 _ en ow ex x fun ds vs O1 B1 G1 H1 ⟨i, j, ed, hk⟩ l1 ex1 r1 ow1 => by
    subst ed
    obtain ⟨v, _, rfl, rv, u, _, rfl, ru, rfl⟩ := r1
    rw [show v = _ from rv, show u = _ from ru]
    exact ⟨i, j, rfl, q _ _ _ _ _ _ hk l1 ex1 rfl ow1⟩
end
end AW

set_option maxHeartbeats 2000000
namespace Fewest
abbrev ab (x : Int) : Int := (x.natAbs : Int)
/-- a box of the sides p and q holds the place -/
def Box (X Y U p q : Int) : Prop := X ≤ p ∧ Y ≤ q ∧ U + X * Y ≤ 2 * (p * q)
/-- n is the least 2 (p + q) - X - Y of the boxes -/
structure Least (X Y U n : Int) : Prop where
  has : ∃ p q, Box X Y U p q ∧ n = 2 * (p + q) - X - Y
  low : ∀ p q, Box X Y U p q → n ≤ 2 * (p + q) - X - Y
theorem Box.swap {X Y U p q : Int} (h : Box X Y U p q) : Box Y X U q p := by
  obtain ⟨h1, h2, h3⟩ := h
  refine ⟨h2, h1, ?_⟩
  rw [Int.mul_comm Y X, Int.mul_comm q p]
  exact h3
theorem Least.swap {X Y U n : Int} (h : Least X Y U n) : Least Y X U n := by
  obtain ⟨p, q, b, e⟩ := h.has
  exact ⟨⟨q, p, b.swap, by omega⟩, fun p q b => by have := h.low q p b.swap; omega⟩
theorem Least.uniq {X Y U n m : Int} (h : Least X Y U n) (g : Least X Y U m) : n = m := by
  obtain ⟨p, q, b, e⟩ := h.has
  obtain ⟨p', q', b', e'⟩ := g.has
  have h1 := g.low p q b
  have h2 := h.low p' q' b'
  omega
theorem mul_mono {a b c : Int} (h : a ≤ b) (hc : 0 ≤ c) : a * c ≤ b * c := Int.mul_le_mul_of_nonneg_right h hc
/-- one step along x: to a side X' that is X + 1 or X - 1, the ground moved by at most Y -/
theorem lip_up {X Y U U' p q : Int} (hY : 0 ≤ Y) (b : Box X Y U p q) (hu : U' ≤ U + Y) : Box (X + 1) Y U' (p + 1) q := by
  obtain ⟨h1, h2, h3⟩ := b
  refine ⟨by omega, h2, ?_⟩
  rw [Int.add_mul, Int.add_mul]
  omega
theorem lip_down {X Y U U' p q : Int} (b : Box X Y U p q) (hu : U' ≤ U + Y) : Box (X - 1) Y U' p q := by
  obtain ⟨h1, h2, h3⟩ := b
  refine ⟨by omega, h2, ?_⟩
  rw [Int.sub_mul]
  omega
/-- no step makes more than one step more -/
theorem lip_x {x y u u' x' n m : Int} (hx : x' = x + 1 ∨ x' = x - 1) (hu : ab u' ≤ ab u + ab y) (h : Least (ab x) (ab y) (ab u) n) (g : Least (ab x') (ab y) (ab u') m) : m ≤ n + 1 := by
  obtain ⟨p, q, b, e⟩ := h.has
  have hY : 0 ≤ ab y := by unfold ab; omega
  rcases (show ab x' = ab x + 1 ∨ ab x' = ab x - 1 by unfold ab; omega) with e1 | e1
  · rw [e1] at g
    have := g.low _ _ (lip_up hY b hu)
    omega
  · rw [e1] at g
    have := g.low _ _ (lip_down b hu)
    omega
def half (A : Int) (h : Int) : Prop := 0 ≤ h ∧ 4 * A ≤ h * h ∧ (h - 1) * (h - 1) < 4 * A
theorem sq_le {a b : Int} (ha : 0 ≤ a) (h : a ≤ b) : a * a ≤ b * b := Int.le_trans (Int.mul_le_mul_of_nonneg_right h ha) (Int.mul_le_mul_of_nonneg_left h (by omega))
theorem sq_lt {a b : Int} (hb : 0 ≤ b) (h : a * a < b * b) : a < b := by
  by_cases c : b ≤ a
  · have := sq_le hb c; omega
  · omega
theorem four (p q : Int) : 4 * (p * q) ≤ (p + q) * (p + q) := by
  have h : 0 ≤ (p - q) * (p - q) := by
    rcases Int.le_total 0 (p - q) with h | h
    · exact Int.mul_nonneg h h
    · have := Int.mul_nonneg (show 0 ≤ -(p - q) by omega) (show 0 ≤ -(p - q) by omega)
      rw [Int.neg_mul_neg] at this
      exact this
  have e : (p + q) * (p + q) = (p - q) * (p - q) + 4 * (p * q) := by grind
  omega
/-- within the sides -/
theorem least1 {L S U A : Int} (hA : 2 * A = U + L * S) (hc : A ≤ L * S) : Least L S U (L + S) :=
  ⟨⟨L, S, ⟨Int.le_refl _, Int.le_refl _, by omega⟩, by omega⟩, fun p q b => by have := b.1; have := b.2.1; omega⟩
/-- the longer side stays, c the least with A ≤ L c -/
theorem least2 {L S U A c : Int} (hS : 0 ≤ S) (hL : 0 < L) (hA : 2 * A = U + L * S) (h1 : L * S < A) (h2 : A ≤ L * L) (hc : A ≤ L * c) (hc2 : L * (c - 1) < A) : Least L S U (2 * c + L - S) := by
  have cS : S ≤ c := by
    rcases (show c < S ∨ S ≤ c by omega) with h | h
    · have := Int.mul_le_mul_of_nonneg_left (show c ≤ S by omega) (Int.le_of_lt hL)
      omega
    · exact h
  refine ⟨⟨L, c, ⟨Int.le_refl _, cS, by omega⟩, by omega⟩, fun p q b => ?_⟩
  obtain ⟨b1, b2, b3⟩ := b
  rcases (show p + q < L + c ∨ L + c ≤ p + q by omega) with h | h
  · have cL : c - 1 < L := by
      rcases (show c - 1 < L ∨ L ≤ c - 1 by omega) with h | h
      · exact h
      · have := Int.mul_le_mul_of_nonneg_left h (Int.le_of_lt hL)
        omega
    -- p = L + d, q ≤ c - 1 - d
    have hp : 0 ≤ p := by omega
    have e1 : p * q ≤ p * (L + c - 1 - p) := Int.mul_le_mul_of_nonneg_left (by omega) hp
    have e2 : 0 ≤ (p - L) * (p - (c - 1)) := Int.mul_nonneg (by omega) (by omega)
    have e3 : p * (L + c - 1 - p) = L * (c - 1) - (p - L) * (p - (c - 1)) := by grind
    omega
  · omega
/-- a square, or nearly so -/
theorem least3 {L S U A h : Int} (hS : 0 ≤ S) (hSL : S ≤ L) (hA : 2 * A = U + L * S) (h2 : L * L < A) (hh : half A h) : Least L S U (2 * h - L - S) := by
  obtain ⟨k0, k1, k2⟩ := hh
  have hL : 2 * L < h := by
    have : (2 * L) * (2 * L) < h * h := by
      have e : (2 * L) * (2 * L) = 4 * (L * L) := by grind
      omega
    exact sq_lt k0 this
  obtain ⟨p, q, hpq, hq⟩ : ∃ p q : Int, p + q = h ∧ (p = q ∨ p = q + 1) := ⟨h - h / 2, h / 2, by omega, by omega⟩
  have area : A ≤ p * q := by
    rcases hq with e | e
    · subst e
      have e2 : h * h = 4 * (p * p) := by rw [← hpq]; grind
      omega
    · subst e
      have e2 : h * h = 4 * ((q + 1) * q) + 1 := by rw [← hpq]; grind
      omega
  refine ⟨⟨p, q, ⟨by omega, by omega, by omega⟩, by omega⟩, fun p q b => ?_⟩
  obtain ⟨b1, b2, b3⟩ := b
  have h4 := four p q
  have : (h - 1) * (h - 1) < (p + q) * (p + q) := by omega
  have := sq_lt (show 0 ≤ p + q by omega) this
  omega
end Fewest
namespace Fewest
theorem lip_y {x y u u' y' n m : Int} (hy : y' = y + 1 ∨ y' = y - 1) (hu : ab u' ≤ ab u + ab x) (h : Least (ab x) (ab y) (ab u) n) (g : Least (ab x) (ab y') (ab u') m) : m ≤ n + 1 :=
  lip_x (x := y) (y := x) hy hu h.swap g.swap
/-- a least number is as great as the sides, and goes with them by two -/
theorem Least.ge {x y u n : Int} (h : Least (ab x) (ab y) (ab u) n) : ab x + ab y ≤ n := by
  obtain ⟨p, q, ⟨b1, b2, _⟩, e⟩ := h.has
  omega
theorem Least.par {x y u n : Int} (h : Least (ab x) (ab y) (ab u) n) : n % 2 = (x + y) % 2 := by
  obtain ⟨p, q, _, e⟩ := h.has
  unfold ab at e
  omega
/-- 0 just at home -/
theorem Least.zero {x y u n : Int} (h : Least (ab x) (ab y) (ab u) n) : n = 0 ↔ x = 0 ∧ y = 0 ∧ u = 0 := by
  obtain ⟨p, q, ⟨b1, b2, b3⟩, e⟩ := h.has
  constructor
  · intro z
    subst z
    have hx : 0 ≤ ab x := by unfold ab; omega
    have hy : 0 ≤ ab y := by unfold ab; omega
    have p0 : p = 0 := by omega
    have q0 : q = 0 := by omega
    subst p0; subst q0
    have x0 : x = 0 := by unfold ab at b1; omega
    have y0 : y = 0 := by unfold ab at b2; omega
    subst x0; subst y0
    refine ⟨rfl, rfl, ?_⟩
    have z : ab 0 = 0 := rfl
    rw [z] at b3
    unfold ab at b3
    omega
  · rintro ⟨rfl, rfl, rfl⟩
    have z : ab 0 = 0 := rfl
    have g := h.ge
    rw [z] at h g
    have := h.low 0 0 ⟨by decide, by decide, by decide⟩
    omega
/-- where a box is that is better by what is wanted, the least number is less -/
theorem Least.lt {X Y U X' Y' U' p q p' q' n m : Int} (e : n = 2 * (p + q) - X - Y) (g : Least X' Y' U' m) (b : Box X' Y' U' p' q') (l : 2 * (p' + q') - X' - Y' < 2 * (p + q) - X - Y) : m < n := by
  have := g.low p' q' b
  omega
theorem ab_pos {x : Int} (h : 0 ≤ x) : ab x = x := by unfold ab; omega
theorem ab_neg {x : Int} : ab (-x) = ab x := by unfold ab; omega
/-- from a place in the first quarter with u ≥ 0 some step leads nearer: e, w or s -/
theorem down_first {x y u n : Int} (hx : 0 ≤ x) (hy : 0 ≤ y) (hu : 0 ≤ u) (par : (u - x * y) % 2 = 0) (nz : ¬(x = 0 ∧ y = 0 ∧ u = 0)) (h : Least x y u n) :
    (∃ p q, Box (ab (x + 1)) (ab y) (ab (u - y)) p q ∧ 2 * (p + q) - ab (x + 1) - ab y < n) ∨
    (∃ p q, Box (ab (x - 1)) (ab y) (ab (u + y)) p q ∧ 2 * (p + q) - ab (x - 1) - ab y < n) ∨
    (∃ p q, Box (ab x) (ab (y - 1)) (ab (u - x)) p q ∧ 2 * (p + q) - ab x - ab (y - 1) < n) := by
  obtain ⟨p, q, ⟨b1, b2, b3⟩, e⟩ := h.has
  have xy0 : 0 ≤ x * y := Int.mul_nonneg hx hy
  rcases (show u ≤ x * y ∨ x * y < u by omega) with c | c
  · -- within the sides
    have nn := h.low x y ⟨Int.le_refl _, Int.le_refl _, by omega⟩
    have ge : x + y ≤ n := by omega
    have en : n = x + y := by omega
    rcases (show y = 0 ∨ 1 ≤ y by omega) with hy0 | hy1
    · subst hy0
      have u0 : u = 0 := by simp at c; omega
      subst u0
      have x1 : 1 ≤ x := by
        rcases (show x = 0 ∨ 1 ≤ x by omega) with z | z
        · exact absurd ⟨z, rfl, rfl⟩ nz
        · exact z
      have z : ab 0 = 0 := rfl
      refine .inr (.inl ⟨x - 1, 0, ⟨by unfold ab; omega, by rw [z]; exact Int.le_refl _, ?_⟩, by unfold ab; omega⟩)
      rw [show (0 : Int) + 0 = 0 from rfl, z, Int.mul_zero, Int.mul_zero]
      decide
    · rcases (show x ≤ u ∨ u < x by omega) with d | d
      · -- s
        refine .inr (.inr ⟨x, y - 1, ⟨by unfold ab; omega, by unfold ab; omega, ?_⟩, by unfold ab; omega⟩)
        have e1 : ab x = x := by unfold ab; omega
        have e2 : ab (y - 1) = y - 1 := by unfold ab; omega
        have e3 : ab (u - x) = u - x := by unfold ab; omega
        rw [e1, e2, e3, Int.mul_sub]
        omega
      · rcases (show y = 1 ∨ 2 ≤ y by omega) with z | z
        · subst z
          -- w
          refine .inr (.inl ⟨x - 1, 1, ⟨by unfold ab; omega, by unfold ab; omega, ?_⟩, by unfold ab; omega⟩)
          have e1 : ab (x - 1) = x - 1 := by unfold ab; omega
          have e2 : ab (u + 1) = u + 1 := by unfold ab; omega
          have e3 : ab 1 = 1 := rfl
          rw [e1, e2, e3]
          omega
        · refine .inr (.inr ⟨x, y - 1, ⟨by unfold ab; omega, by unfold ab; omega, ?_⟩, by unfold ab; omega⟩)
          have e1 : ab x = x := by unfold ab; omega
          have e2 : ab (y - 1) = y - 1 := by unfold ab; omega
          have e3 : ab (u - x) = x - u := by unfold ab; omega
          have e4 : x * 2 ≤ x * y := Int.mul_le_mul_of_nonneg_left z hx
          rw [e1, e2, e3, Int.mul_sub]
          omega
  · -- beyond
    rcases (show x + 1 ≤ p ∨ p = x by omega) with d | d
    · rcases (show y ≤ u ∨ u < y by omega) with f | f
      · -- e, the same box
        refine .inl ⟨p, q, ⟨by unfold ab; omega, by unfold ab; omega, ?_⟩, by unfold ab; omega⟩
        have e1 : ab (x + 1) = x + 1 := by unfold ab; omega
        have e2 : ab y = y := by unfold ab; omega
        have e3 : ab (u - y) = u - y := by unfold ab; omega
        rw [e1, e2, e3, Int.add_mul]
        omega
      · have x0 : x = 0 := by
          rcases (show x = 0 ∨ 1 ≤ x by omega) with z | z
          · exact z
          · have := mul_mono z hy
            omega
        subst x0
        refine .inl ⟨1, y, ⟨by unfold ab; omega, by unfold ab; omega, ?_⟩, by unfold ab; omega⟩
        have e1 : ab (0 + 1) = 1 := by unfold ab; omega
        have e2 : ab y = y := by unfold ab; omega
        have e3 : ab (u - y) = y - u := by unfold ab; omega
        rw [e1, e2, e3]
        omega
    · subst d
      have x1 : 1 ≤ p := by
        rcases (show p = 0 ∨ 1 ≤ p by omega) with z | z
        · subst z; simp at b3 c; omega
        · exact z
      have q1 : y + 1 ≤ q := by
        rcases (show q = y ∨ y + 1 ≤ q by omega) with z | z
        · subst z; omega
        · exact z
      rcases (show y = 0 ∨ 1 ≤ y by omega) with hy0 | hy1
      · subst hy0
        rcases (show p ≤ u ∨ u < p by omega) with f | f
        · refine .inr (.inr ⟨p, q, ⟨by unfold ab; omega, by unfold ab; omega, ?_⟩, by unfold ab; omega⟩)
          have e1 : ab p = p := by unfold ab; omega
          have e2 : ab (0 - 1) = 1 := by unfold ab; omega
          have e3 : ab (u - p) = u - p := by unfold ab; omega
          rw [e1, e2, e3]
          simp at b3
          omega
        · refine .inr (.inr ⟨p, 1, ⟨by unfold ab; omega, by unfold ab; omega, ?_⟩, by unfold ab; omega⟩)
          have e1 : ab p = p := by unfold ab; omega
          have e2 : ab (0 - 1) = 1 := by unfold ab; omega
          have e3 : ab (u - p) = p - u := by unfold ab; omega
          rw [e1, e2, e3]
          omega
      · have pu : p ≤ u := by
          have : p * 1 ≤ p * y := Int.mul_le_mul_of_nonneg_left hy1 hx
          omega
        refine .inr (.inr ⟨p, q - 1, ⟨by unfold ab; omega, by unfold ab; omega, ?_⟩, by unfold ab; omega⟩)
        have e1 : ab p = p := by unfold ab; omega
        have e2 : ab (y - 1) = y - 1 := by unfold ab; omega
        have e3 : ab (u - p) = u - p := by unfold ab; omega
        rw [e1, e2, e3, Int.mul_sub, Int.mul_sub]
        omega
end Fewest
namespace Fewest
/-- a box that is better than n -/
def D (x y u n : Int) : Prop := ∃ p q, Box (ab x) (ab y) (ab u) p q ∧ 2 * (p + q) - ab x - ab y < n
/-- one of the four steps leads nearer -/
def Near (x y u n : Int) : Prop := D (x + 1) y (u - y) n ∨ D (x - 1) y (u + y) n ∨ D x (y + 1) (u + x) n ∨ D x (y - 1) (u - x) n
theorem D.same {x y u x' y' u' n : Int} (h : D x y u n) (h1 : ab x' = ab x) (h2 : ab y' = ab y) (h3 : ab u' = ab u) : D x' y' u' n := by
  unfold D
  rw [h1, h2, h3]
  exact h
theorem D.swap {x y u x' y' u' n : Int} (h : D x y u n) (h1 : ab x' = ab y) (h2 : ab y' = ab x) (h3 : ab u' = ab u) : D x' y' u' n := by
  unfold D
  rw [h1, h2, h3]
  obtain ⟨p, q, b, l⟩ := h
  exact ⟨q, p, b.swap, by omega⟩
theorem Near.m1 {x y u n : Int} (h : Near (-x) y (-u) n) : Near x y u n := by
  rcases h with h | h | h | h
  · exact .inr (.inl (h.same (by unfold ab; omega) rfl (by unfold ab; omega)))
  · exact .inl (h.same (by unfold ab; omega) rfl (by unfold ab; omega))
  · exact .inr (.inr (.inl (h.same (by unfold ab; omega) rfl (by unfold ab; omega))))
  · exact .inr (.inr (.inr (h.same (by unfold ab; omega) rfl (by unfold ab; omega))))
theorem Near.m2 {x y u n : Int} (h : Near x (-y) (-u) n) : Near x y u n := by
  rcases h with h | h | h | h
  · exact .inl (h.same rfl (by unfold ab; omega) (by unfold ab; omega))
  · exact .inr (.inl (h.same rfl (by unfold ab; omega) (by unfold ab; omega)))
  · exact .inr (.inr (.inr (h.same rfl (by unfold ab; omega) (by unfold ab; omega))))
  · exact .inr (.inr (.inl (h.same rfl (by unfold ab; omega) (by unfold ab; omega))))
theorem Near.m3 {x y u n : Int} (h : Near y x (-u) n) : Near x y u n := by
  rcases h with h | h | h | h
  · exact .inr (.inr (.inl (h.swap rfl rfl (by unfold ab; omega))))
  · exact .inr (.inr (.inr (h.swap rfl rfl (by unfold ab; omega))))
  · exact .inl (h.swap rfl rfl (by unfold ab; omega))
  · exact .inr (.inl (h.swap rfl rfl (by unfold ab; omega)))
theorem near0 {x y u n : Int} (hx : 0 ≤ x) (hy : 0 ≤ y) (hu : 0 ≤ u) (par : (u - x * y) % 2 = 0) (nz : ¬(x = 0 ∧ y = 0 ∧ u = 0)) (h : Least (ab x) (ab y) (ab u) n) : Near x y u n := by
  rw [ab_pos hx, ab_pos hy, ab_pos hu] at h
  rcases down_first hx hy hu par nz h with h | h | h
  · exact .inl h
  · exact .inr (.inl h)
  · exact .inr (.inr (.inr h))
theorem near1 {x y u n : Int} (hx : 0 ≤ x) (hy : 0 ≤ y) (par : (u - x * y) % 2 = 0) (nz : ¬(x = 0 ∧ y = 0 ∧ u = 0)) (h : Least (ab x) (ab y) (ab u) n) : Near x y u n := by
  rcases (show 0 ≤ u ∨ u < 0 by omega) with c | c
  · exact near0 hx hy c par nz h
  · refine Near.m3 (near0 hy hx (by omega) ?_ (by omega) ?_)
    · rw [Int.mul_comm y x]; omega
    · rw [ab_neg]; exact h.swap
theorem near2 {x y u n : Int} (hx : 0 ≤ x) (par : (u - x * y) % 2 = 0) (nz : ¬(x = 0 ∧ y = 0 ∧ u = 0)) (h : Least (ab x) (ab y) (ab u) n) : Near x y u n := by
  rcases (show 0 ≤ y ∨ y < 0 by omega) with c | c
  · exact near1 hx c par nz h
  · refine Near.m2 (near1 hx (by omega) ?_ (by omega) ?_)
    · rw [Int.mul_neg]; omega
    · rw [ab_neg, ab_neg]; exact h
/-- from every place but home some step leads nearer -/
theorem near {x y u n : Int} (par : (u - x * y) % 2 = 0) (nz : ¬(x = 0 ∧ y = 0 ∧ u = 0)) (h : Least (ab x) (ab y) (ab u) n) : Near x y u n := by
  rcases (show 0 ≤ x ∨ x < 0 by omega) with c | c
  · exact near2 c par nz h
  · refine Near.m1 (near2 (by omega) ?_ (by omega) ?_)
    · rw [Int.neg_mul]; omega
    · rw [ab_neg, ab_neg]; exact h
theorem sqrt_ex (n : Nat) : ∃ r : Nat, r * r ≤ n ∧ n < (r + 1) * (r + 1) := by
  induction n with
  | zero => exact ⟨0, by decide, by decide⟩
  | succ n ih =>
    obtain ⟨r, h1, h2⟩ := ih
    by_cases c : n + 1 < (r + 1) * (r + 1)
    · exact ⟨r, by omega, c⟩
    · refine ⟨r + 1, by omega, ?_⟩
      have e : (r + 1 + 1) * (r + 1 + 1) = (r + 1) * (r + 1) + 2 * r + 3 := by grind
      omega
/-- h of the formula: the root of 4 A - 1, and 1 -/
theorem half_of {A r : Int} (hr : 0 ≤ r) (h1 : r * r ≤ 4 * A - 1) (h2 : 4 * A - 1 < (r + 1) * (r + 1)) : half A (r + 1) := by
  refine ⟨by omega, by omega, ?_⟩
  rw [show r + 1 - 1 = r by omega]
  omega
theorem half_ex {A : Int} (hA : 0 < A) : ∃ h, half A h := by
  obtain ⟨r, h1, h2⟩ := sqrt_ex (4 * A - 1).toNat
  refine ⟨(r : Int) + 1, half_of (by omega) ?_ ?_⟩
  · have : ((r * r : Nat) : Int) ≤ 4 * A - 1 := by omega
    rw [Int.natCast_mul] at this
    exact this
  · have : (4 * A - 1) < (((r + 1) * (r + 1) : Nat) : Int) := by omega
    rw [Int.natCast_mul, Int.natCast_add] at this
    exact this
theorem up_ex {A L : Int} (hL : 0 < L) : A ≤ L * (-((-A) / L)) ∧ L * (-((-A) / L) - 1) < A := by
  have h1 := Int.emod_nonneg (-A) (show L ≠ 0 by omega)
  have h2 := Int.emod_lt_of_pos (-A) hL
  have h3 := Int.mul_ediv_add_emod (-A) L
  rw [Int.mul_neg, Int.mul_sub, Int.mul_neg, Int.mul_one]
  omega
/-- the formula of the fewest steps, of the longer and the shorter side and the doubled ground -/
theorem least_sorted {L S U A : Int} (hS : 0 ≤ S) (hSL : S ≤ L) (hU : 0 ≤ U) (hA : 2 * A = U + L * S) : ∃ n, Least L S U n := by
  have h0 : 0 ≤ L * S := Int.mul_nonneg (by omega) hS
  rcases (show A ≤ L * S ∨ L * S < A by omega) with c | c
  · exact ⟨_, least1 hA c⟩
  · rcases (show A ≤ L * L ∨ L * L < A by omega) with d | d
    · have hL : 0 < L := by
        rcases (show L = 0 ∨ 0 < L by omega) with z | z
        · subst z; omega
        · exact z
      exact ⟨_, least2 hS hL hA c d (up_ex hL).1 (up_ex hL).2⟩
    · obtain ⟨h, hh⟩ := half_ex (A := A) (by omega)
      exact ⟨_, least3 hS hSL hA d hh⟩
theorem least_ex {x y u : Int} (par : (u - x * y) % 2 = 0) : ∃ n, Least (ab x) (ab y) (ab u) n := by
  have hx : 0 ≤ ab x := by unfold ab; omega
  have hy : 0 ≤ ab y := by unfold ab; omega
  have hu : 0 ≤ ab u := by unfold ab; omega
  have e : (ab u + ab x * ab y) % 2 = 0 := by
    have e1 : ab x * ab y = ab (x * y) := by unfold ab; rw [Int.natAbs_mul, Int.natCast_mul]
    rw [e1]
    unfold ab
    omega
  rcases (show ab y ≤ ab x ∨ ab x ≤ ab y by omega) with c | c
  · exact least_sorted hy c hu (A := (ab u + ab x * ab y) / 2) (by omega)
  · have e' : (ab u + ab y * ab x) % 2 = 0 := by rw [Int.mul_comm]; exact e
    obtain ⟨n, h⟩ := least_sorted hx c hu (A := (ab u + ab y * ab x) / 2) (by omega)
    exact ⟨n, h.swap⟩
end Fewest
namespace Fewest
/-- n is the number of fewest steps to (x, y, a) -/
def St (x y a n : Int) : Prop := Least (ab x) (ab y) (ab (2 * a - x * y)) n
theorem st_par (x y a : Int) : (2 * a - x * y - x * y) % 2 = 0 := by omega
theorem st_ex (x y a : Int) : ∃ n, St x y a n := least_ex (st_par x y a)
theorem St.uniq {x y a n m : Int} (h : St x y a n) (g : St x y a m) : n = m := Least.uniq h g
theorem St.pos {x y a n : Int} (h : St x y a n) : 0 ≤ n := by
  have := Least.ge h
  unfold ab at this
  omega
theorem St.home {x y a n : Int} (h : St x y a n) : n = 0 ↔ x = 0 ∧ y = 0 ∧ a = 0 := by
  rw [Least.zero h]
  constructor
  · rintro ⟨rfl, rfl, h3⟩
    exact ⟨rfl, rfl, by omega⟩
  · rintro ⟨rfl, rfl, rfl⟩
    exact ⟨rfl, rfl, rfl⟩
theorem St.of_u {x y a x' y' a' n : Int} (h : St x y a n) (h1 : ab x' = ab x) (h2 : ab y' = ab y) (h3 : ab (2 * a' - x' * y') = ab (2 * a - x * y)) : St x' y' a' n := by
  unfold St
  rw [h1, h2, h3]
  exact h
theorem St.of_s {x y a x' y' a' n : Int} (h : St x y a n) (h1 : ab x' = ab y) (h2 : ab y' = ab x) (h3 : ab (2 * a' - x' * y') = ab (2 * a - x * y)) : St x' y' a' n := by
  unfold St
  rw [h1, h2, h3]
  exact Least.swap h
theorem ue (x y a : Int) : 2 * a - (x + 1) * y = (2 * a - x * y) - y := by rw [Int.add_mul]; omega
theorem uw (x y a : Int) : 2 * a - (x - 1) * y = (2 * a - x * y) + y := by rw [Int.sub_mul]; omega
theorem un (x y a : Int) : 2 * (a + x) - x * (y + 1) = (2 * a - x * y) + x := by rw [show x * (y + 1) = x * y + x by rw [Int.mul_add, Int.mul_one]]; omega
theorem us (x y a : Int) : 2 * (a - x) - x * (y - 1) = (2 * a - x * y) - x := by rw [show x * (y - 1) = x * y - x by rw [Int.mul_sub, Int.mul_one]]; omega
theorem ab_sub (u y : Int) : ab (u - y) ≤ ab u + ab y := by unfold ab; omega
theorem ab_add (u y : Int) : ab (u + y) ≤ ab u + ab y := by unfold ab; omega
/-- a step is one more or one less -/
theorem one_of {n m s t : Int} (h1 : m ≤ n + 1) (h2 : n ≤ m + 1) (p1 : n % 2 = s % 2) (p2 : m % 2 = t % 2) (st : (s - t) % 2 = 1) : m = n + 1 ∨ m = n - 1 := by omega
theorem St.e {x y a n m : Int} (h : St x y a n) (g : St (x + 1) y a m) : m = n + 1 ∨ m = n - 1 := by
  unfold St at h g
  rw [ue] at g
  have g2 := g
  refine one_of (lip_x (.inl rfl) (ab_sub _ _) h g) (lip_x (x' := x) (.inr (by omega)) (u' := 2 * a - x * y) ?_ g2 h) (Least.par h) (Least.par g) (by omega)
  have := ab_add ((2 * a - x * y) - y) y
  rw [show (2 * a - x * y) - y + y = 2 * a - x * y by omega] at this
  exact this
theorem St.w {x y a n m : Int} (h : St x y a n) (g : St (x - 1) y a m) : m = n + 1 ∨ m = n - 1 := by
  have := St.e g (by rw [show x - 1 + 1 = x by omega]; exact h)
  omega
theorem St.n {x y a n m : Int} (h : St x y a n) (g : St x (y + 1) (a + x) m) : m = n + 1 ∨ m = n - 1 := by
  unfold St at h g
  rw [un] at g
  have g2 := g
  refine one_of (lip_y (.inl rfl) (ab_add _ _) h g) (lip_y (y' := y) (.inr (by omega)) (u' := 2 * a - x * y) ?_ g2 h) (Least.par h) (Least.par g) (by omega)
  have := ab_sub ((2 * a - x * y) + x) x
  rw [show (2 * a - x * y) + x - x = 2 * a - x * y by omega] at this
  exact this
theorem St.s {x y a n m : Int} (h : St x y a n) (g : St x (y - 1) (a - x) m) : m = n + 1 ∨ m = n - 1 := by
  have := St.n g (by rw [show y - 1 + 1 = y by omega, show a - x + x = a by omega]; exact h)
  omega
theorem D.lt {x y u n m : Int} (d : D x y u n) (g : Least (ab x) (ab y) (ab u) m) : m < n := by
  obtain ⟨p, q, b, l⟩ := d
  have := g.low p q b
  omega
/-- some step leads one nearer -/
theorem St.nearer {x y a n me mw mn ms : Int} (h : St x y a n) (nz : ¬(x = 0 ∧ y = 0 ∧ a = 0)) (ge : St (x + 1) y a me) (gw : St (x - 1) y a mw) (gn : St x (y + 1) (a + x) mn) (gs : St x (y - 1) (a - x) ms) :
    me = n - 1 ∨ mw = n - 1 ∨ mn = n - 1 ∨ ms = n - 1 := by
  have oe := h.e ge
  have ow := h.w gw
  have on := h.n gn
  have os := h.s gs
  have d := near (st_par x y a) (by
    rintro ⟨rfl, rfl, h3⟩
    exact nz ⟨rfl, rfl, by omega⟩) h
  unfold St at ge gw gn gs
  rw [ue] at ge
  rw [uw] at gw
  rw [un] at gn
  rw [us] at gs
  rcases d with d | d | d | d
  · have := d.lt ge; omega
  · have := d.lt gw; omega
  · have := d.lt gn; omega
  · have := d.lt gs; omega
/-- the number of a product -/
theorem St.tri {x y a n : Int} (h : St x y a n) : ∀ (k : Nat) {z w c m t : Int}, St z w c m → m = k → St (x + z) (y + w) (a + c + x * w) t → t ≤ n + m := by
  intro k
  induction k with
  | zero =>
    intro z w c m t g e f
    have e0 : m = 0 := e
    obtain ⟨rfl, rfl, rfl⟩ := (St.home g).mp e0
    rw [Int.mul_zero, Int.add_zero, Int.add_zero, Int.add_zero, Int.add_zero] at f
    have := St.uniq h f
    omega
  | succ k ih =>
    intro z w c m t g e f
    have nz : ¬(z = 0 ∧ w = 0 ∧ c = 0) := fun q => by
      have := (St.home g).mpr q
      omega
    obtain ⟨me, ge⟩ := st_ex (z + 1) w c
    obtain ⟨mw, gw⟩ := st_ex (z - 1) w c
    obtain ⟨mn, gn⟩ := st_ex z (w + 1) (c + z)
    obtain ⟨ms, gs⟩ := st_ex z (w - 1) (c - z)
    rcases g.nearer nz ge gw gn gs with q | q | q | q
    · obtain ⟨t', f'⟩ := st_ex (x + (z + 1)) (y + w) (a + c + x * w)
      have i := ih ge (by omega) f'
      rw [show x + (z + 1) = x + z + 1 by omega] at f'
      have := f.e f'
      omega
    · obtain ⟨t', f'⟩ := st_ex (x + (z - 1)) (y + w) (a + c + x * w)
      have i := ih gw (by omega) f'
      rw [show x + (z - 1) = x + z - 1 by omega] at f'
      have := f.w f'
      omega
    · obtain ⟨t', f'⟩ := st_ex (x + z) (y + (w + 1)) (a + (c + z) + x * (w + 1))
      have i := ih gn (by omega) f'
      rw [show y + (w + 1) = y + w + 1 by omega, show a + (c + z) + x * (w + 1) = a + c + x * w + (x + z) by grind] at f'
      have := f.n f'
      omega
    · obtain ⟨t', f'⟩ := st_ex (x + z) (y + (w - 1)) (a + (c - z) + x * (w - 1))
      have i := ih gs (by omega) f'
      rw [show y + (w - 1) = y + w - 1 by omega, show a + (c - z) + x * (w - 1) = a + c + x * w - (x + z) by grind] at f'
      have := f.s f'
      omega
theorem St.triangle {x y a n z w c m t : Int} (h : St x y a n) (g : St z w c m) (f : St (x + z) (y + w) (a + c + x * w) t) : t ≤ n + m := h.tri m.toNat g (by have := g.pos; omega) f
theorem St.parity {x y a n z w c m t : Int} (h : St x y a n) (g : St z w c m) (f : St (x + z) (y + w) (a + c + x * w) t) : (n + m - t) % 2 = 0 := by
  have := Least.par h
  have := Least.par g
  have := Least.par f
  omega
end Fewest
namespace Fewest
section
variable {w h : Int} (hh : 1 ≤ h) (hw : h ≤ w)
include hh hw
end
/-- the same at places that turning and the mirrors make -/
theorem ways5 {x y a n : Int} (h : St x y a n) : St (-y) x (a - x * y) n ∧ St (-x) (-y) a n ∧ St (-x) y (-a) n ∧ St y x (x * y - a) n ∧ St (-x) (-y) (x * y - a) n := by
  refine ⟨h.of_s ab_neg rfl ?_, h.of_u ab_neg ab_neg ?_, h.of_u ab_neg rfl ?_, h.of_s rfl rfl ?_, h.of_u ab_neg ab_neg ?_⟩
  · rw [Int.neg_mul, Int.mul_comm y x]; unfold ab; omega
  · rw [Int.neg_mul_neg]
  · rw [Int.neg_mul]; unfold ab; omega
  · rw [Int.mul_comm y x]; unfold ab; omega
  · rw [Int.neg_mul_neg]; unfold ab; omega
end Fewest

namespace Fewest
/-- the width of the best box -/
def bestW (X Y s : Int) : Int := min (max ((X + Y + s) / 2) X) (X + s)
theorem bestW_in {X Y s : Int} (hX : 0 ≤ X) (hY : 0 ≤ Y) (hs : 0 ≤ s) : X ≤ bestW X Y s ∧ bestW X Y s ≤ X + s ∧ Y ≤ X + Y + s - bestW X Y s := by
  unfold bestW
  omega
theorem prod_nn {a b : Int} (h : (0 ≤ a ∧ 0 ≤ b) ∨ (a ≤ 0 ∧ b ≤ 0)) : 0 ≤ a * b := by
  rcases h with ⟨h1, h2⟩ | ⟨h1, h2⟩
  · exact Int.mul_nonneg h1 h2
  · have := Int.mul_nonneg (show 0 ≤ -a by omega) (show 0 ≤ -b by omega)
    rw [Int.neg_mul_neg] at this
    exact this
/-- no box of these sides is greater -/
theorem best_box {X Y s p q : Int} (hX : 0 ≤ X) (hY : 0 ≤ Y) (hs : 0 ≤ s) (hp : X ≤ p) (hq : Y ≤ q) (h : p + q ≤ X + Y + s) : p * q ≤ bestW X Y s * (X + Y + s - bestW X Y s) := by
  have e1 : p * q ≤ p * (X + Y + s - p) := Int.mul_le_mul_of_nonneg_left (by omega) (by omega)
  obtain ⟨W, hW⟩ : ∃ W, bestW X Y s = W := ⟨_, rfl⟩
  rw [hW]
  have e2 : 0 ≤ (W - p) * (X + Y + s - W - p) := by
    refine prod_nn ?_
    unfold bestW at hW
    omega
  have e3 : W * (X + Y + s - W) = p * (X + Y + s - p) + (W - p) * (X + Y + s - W - p) := by grind
  omega
/-- exactly the places with ground within the best box are reached by n steps -/
theorem reach {x y a n k s : Int} (h : St x y a k) (hs : n - ab x - ab y = 2 * s) (s0 : 0 ≤ s) :
    (k ≤ n ∧ (n - k) % 2 = 0) ↔ ab (2 * a - x * y) + ab x * ab y ≤ 2 * (bestW (ab x) (ab y) s * (ab x + ab y + s - bestW (ab x) (ab y) s)) := by
  have hX : 0 ≤ ab x := by unfold ab; omega
  have hY : 0 ≤ ab y := by unfold ab; omega
  have bi := bestW_in hX hY s0
  constructor
  · rintro ⟨h1, _⟩
    obtain ⟨p, q, ⟨b1, b2, b3⟩, e⟩ := h.has
    have := best_box hX hY s0 b1 b2 (by omega)
    omega
  · intro c
    have l := h.low _ _ ⟨bi.1, bi.2.2, c⟩
    refine ⟨by omega, ?_⟩
    have p := Least.par h
    unfold ab at hs
    omega
/-- the least and the greatest area at (x, y) -/
theorem areas_of {x y a n k s W : Int} (h : St x y a k) (hs : n - ab x - ab y = 2 * s) (s0 : 0 ≤ s) (hW : bestW (ab x) (ab y) s = W) :
    (k ≤ n ∧ (n - k) % 2 = 0) ↔ (max 0 (x * y) - W * (ab x + ab y + s - W) ≤ a ∧ a ≤ W * (ab x + ab y + s - W) + min 0 (x * y)) := by
  rw [reach h hs s0, hW]
  have e1 : ab x * ab y = ab (x * y) := by unfold ab; rw [Int.natAbs_mul, Int.natCast_mul]
  rw [e1]
  generalize W * (ab x + ab y + s - W) = G
  generalize x * y = z
  unfold ab
  omega
/-- fewer steps than the sides, or of the other parity: none -/
theorem none_of {x y a n k : Int} (h : St x y a k) (c : n < ab x + ab y ∨ (n - ab x - ab y) % 2 = 1) : ¬(k ≤ n ∧ (n - k) % 2 = 0) := by
  have g := Least.ge h
  have p := Least.par h
  unfold ab at *
  omega
end Fewest
namespace Fewest
end Fewest

set_option linter.all false
set_option maxHeartbeats 1000000
namespace Bz
/-- (a, b, r) with a * f + b * s = r -/
structure Tr where
  a : Int
  b : Int
  r : Int
def stp (l h : Tr) : Tr := ⟨l.a - l.r.fdiv h.r * h.a, l.b - l.r.fdiv h.r * h.b, l.r - l.r.fdiv h.r * h.r⟩
structure In (f s : Int) (l h : Tr) : Prop where
  el : l.a * f + l.b * s = l.r
  eh : h.a * f + h.b * s = h.r
  g : Nat.gcd l.r.natAbs h.r.natAbs = Nat.gcd f.natAbs s.natAbs
  fa : h.a.natAbs * l.r.natAbs + l.a.natAbs * h.r.natAbs ≤ f.natAbs + 2 * s.natAbs
  fb : h.b.natAbs * l.r.natAbs + l.b.natAbs * h.r.natAbs ≤ f.natAbs + 2 * s.natAbs
  la : l.a.natAbs ≤ f.natAbs + 2 * s.natAbs + 1
  lb : l.b.natAbs ≤ f.natAbs + 2 * s.natAbs + 1
  sg : 0 ≤ l.r * h.r
  lt : h.r.natAbs < l.r.natAbs
  lr : l.r.natAbs ≤ f.natAbs + s.natAbs
theorem fmod_sg (x y : Int) (h : y ≠ 0) : 0 ≤ y * (x - x.fdiv y * y) ∧ (x - x.fdiv y * y).natAbs < y.natAbs := by
  have e : x - x.fdiv y * y = x.fmod y := by
    have := Int.mul_fdiv_add_fmod x y
    rw [Int.mul_comm] at this
    omega
  rw [e]
  rcases Int.lt_or_gt_of_ne h with h | h
  · have h1 : x.fmod y = -((-x).fmod (-y)) := by rw [Int.neg_fmod_neg]; omega
    have h2 := Int.fmod_nonneg_of_pos (-x) (show 0 < -y by omega)
    have h3 := Int.fmod_lt_of_pos (-x) (show 0 < -y by omega)
    refine ⟨?_, by omega⟩
    rw [h1]
    have := Int.mul_nonneg (show 0 ≤ -y by omega) h2
    grind
  · have h2 := Int.fmod_nonneg_of_pos x h
    have h3 := Int.fmod_lt_of_pos x h
    exact ⟨Int.mul_nonneg (by omega) h2, by omega⟩
theorem gcd_stp (x y t : Int) : Nat.gcd y.natAbs (x - t * y).natAbs = Nat.gcd x.natAbs y.natAbs := by
  rw [← Int.gcd_eq_natAbs_gcd_natAbs, ← Int.gcd_eq_natAbs_gcd_natAbs]
  rw [Int.gcd_comm x y, Int.gcd_sub_mul_right_right]
theorem abs_sub_mul (a t b : Int) : (a - t * b).natAbs ≤ a.natAbs + t.natAbs * b.natAbs := by
  rw [← Int.natAbs_mul]
  omega
theorem sgn_neg {x y : Int} (h : y < 0) (s : 0 ≤ x * y) : x ≤ 0 := by
  apply Classical.byContradiction
  intro z
  have := Int.mul_neg_of_pos_of_neg (show 0 < x by omega) h
  omega
theorem sgn_pos {x y : Int} (h : 0 < y) (s : 0 ≤ x * y) : 0 ≤ x := by
  apply Classical.byContradiction
  intro z
  have := Int.mul_neg_of_neg_of_pos (show x < 0 by omega) h
  omega
/-- same sign: the quotient's parts add up -/
theorem add_up {x y : Int} (h : y ≠ 0) (sg : 0 ≤ x * y) : (x.fdiv y).natAbs * y.natAbs + (x - x.fdiv y * y).natAbs = x.natAbs := by
  obtain ⟨h1, h2⟩ := fmod_sg x y h
  generalize x.fdiv y = t at h1 h2 ⊢
  rw [← Int.natAbs_mul]
  rcases Int.lt_or_gt_of_ne h with h | h
  · have hx : x ≤ 0 := sgn_neg h sg
    have hr : x - t * y ≤ 0 := sgn_neg h (by rw [Int.mul_comm]; exact h1)
    have ht : t * y ≤ 0 := by
      apply Classical.byContradiction; intro z
      have ht0 : t < 0 := by
        apply Classical.byContradiction; intro z2
        have := Int.mul_nonneg (show 0 ≤ t by omega) (show 0 ≤ -y by omega)
        rw [Int.mul_neg] at this
        omega
      have := Int.mul_le_mul_of_nonpos_right (show t ≤ -1 by omega) (show y ≤ 0 by omega)
      omega
    omega
  · have hx : 0 ≤ x := sgn_pos h sg
    have hr : 0 ≤ x - t * y := sgn_pos h (by rw [Int.mul_comm]; exact h1)
    have ht : 0 ≤ t * y := by
      apply Classical.byContradiction; intro z
      have ht0 : t < 0 := by
        apply Classical.byContradiction; intro z2
        have := Int.mul_nonneg (show 0 ≤ t by omega) (show 0 ≤ y by omega)
        omega
      have := Int.mul_le_mul_of_nonneg_right (show t ≤ -1 by omega) (show 0 ≤ y by omega)
      omega
    omega
theorem pot_step (A A0 T R R' L : Nat) (h : T * R + R' = L) : (A0 + T * A) * R + A * R' = A * L + A0 * R := by
  subst h
  grind
theorem In.step {f s : Int} {l h : Tr} (I : In f s l h) (nz : h.r ≠ 0) : In f s h (stp l h) ∧ 2 * (h.r.natAbs * (stp l h).r.natAbs) < l.r.natAbs * h.r.natAbs := by
  obtain ⟨h1, h2⟩ := fmod_sg l.r h.r nz
  have au := add_up nz I.sg
  unfold stp
  dsimp only
  generalize l.r.fdiv h.r = t at h1 h2 au ⊢
  have a1 := abs_sub_mul l.a t h.a
  have b1 := abs_sub_mul l.b t h.b
  have p1 := pot_step h.a.natAbs l.a.natAbs t.natAbs h.r.natAbs (l.r - t * h.r).natAbs l.r.natAbs au
  have p2 := pot_step h.b.natAbs l.b.natAbs t.natAbs h.r.natAbs (l.r - t * h.r).natAbs l.r.natAbs au
  have m1 := Nat.mul_le_mul_right h.r.natAbs a1
  have m2 := Nat.mul_le_mul_right h.r.natAbs b1
  have lpos : 1 ≤ l.r.natAbs := by have := I.lt; omega
  have q1 := Nat.mul_le_mul_left h.a.natAbs lpos
  have q2 := Nat.mul_le_mul_left h.b.natAbs lpos
  have fa := I.fa
  have fb := I.fb
  refine ⟨⟨I.eh, ?_, ?_, ?_, ?_, ?_, ?_, h1, h2, by have := I.lt; have := I.lr; omega⟩, ?_⟩
  · have e1 := I.el
    have e2 := I.eh
    dsimp only
    grind
  · rw [gcd_stp]; exact I.g
  · dsimp only; omega
  · dsimp only; omega
  · rw [Nat.mul_one] at q1
    have : 0 ≤ l.a.natAbs * h.r.natAbs := Nat.zero_le _
    omega
  · rw [Nat.mul_one] at q2
    have : 0 ≤ l.b.natAbs * h.r.natAbs := Nat.zero_le _
    omega
  · -- halving
    have tp : 1 ≤ t.natAbs := by
      have hl := I.lt
      apply Classical.byContradiction
      intro z
      have z : t.natAbs = 0 := by omega
      rw [z] at au
      omega
    have t1 := Nat.mul_le_mul_right h.r.natAbs tp
    have hl : 2 * (l.r - t * h.r).natAbs < l.r.natAbs := by omega
    have hp : 0 < h.r.natAbs := by omega
    have := Nat.mul_lt_mul_of_pos_right hl hp
    rw [Nat.mul_comm h.r.natAbs, ← Nat.mul_assoc]
    exact this
theorem In.first (f s : Int) (nz : s ≠ 0) : In f s ⟨0, 1, s⟩ (stp ⟨1, 0, f⟩ ⟨0, 1, s⟩) := by
  obtain ⟨h1, h2⟩ := fmod_sg f s nz
  unfold stp
  dsimp only
  have tb : (f.fdiv s).natAbs * s.natAbs ≤ f.natAbs + s.natAbs := by
    rw [← Int.natAbs_mul]
    omega
  generalize f.fdiv s = t at h1 h2 tb ⊢
  have tl : t.natAbs ≤ f.natAbs + s.natAbs := by
    have : 1 ≤ s.natAbs := by omega
    have := Nat.mul_le_mul_left t.natAbs this
    omega
  refine ⟨by dsimp only; omega, by dsimp only; grind, ?_, ?_, ?_, by dsimp only; omega, by dsimp only; omega, h1, h2, by dsimp only; omega⟩
  · rw [gcd_stp]
  · dsimp only; simp; omega
  · dsimp only
    have e1 : (0 - t * 1).natAbs = t.natAbs := by omega
    rw [e1]
    have : (1 : Int).natAbs = 1 := rfl
    rw [this, Nat.one_mul]
    omega
/-- at the end -/
theorem In.last {f s : Int} {l h : Tr} (I : In f s l h) (z : h.r = 0) : l.r.natAbs = Nat.gcd f.natAbs s.natAbs := by
  have := I.g
  rw [z] at this
  simpa using this
/-- at any time -/
def WI (f s : Int) (l h : Tr) : Prop := (l = ⟨1, 0, f⟩ ∧ h = ⟨0, 1, s⟩) ∨ In f s l h
theorem WI.step {f s : Int} {l h : Tr} (I : WI f s l h) (nz : h.r ≠ 0) : In f s h (stp l h) := by
  rcases I with ⟨rfl, rfl⟩ | I
  · exact In.first f s nz
  · exact (I.step nz).1
theorem In.ha {f s : Int} {l h : Tr} (I : In f s l h) : h.a.natAbs ≤ f.natAbs + 2 * s.natAbs ∧ h.b.natAbs ≤ f.natAbs + 2 * s.natAbs := by
  have lpos : 1 ≤ l.r.natAbs := by have := I.lt; omega
  have q1 := Nat.mul_le_mul_left h.a.natAbs lpos
  have q2 := Nat.mul_le_mul_left h.b.natAbs lpos
  have fa := I.fa
  have fb := I.fb
  rw [Nat.mul_one] at q1 q2
  omega
theorem WI.bd {f s : Int} {l h : Tr} (I : WI f s l h) : l.a.natAbs ≤ f.natAbs + 2 * s.natAbs + 1 ∧ l.b.natAbs ≤ f.natAbs + 2 * s.natAbs + 1 ∧ l.r.natAbs ≤ f.natAbs + s.natAbs ∧ h.a.natAbs ≤ f.natAbs + 2 * s.natAbs + 1 ∧ h.b.natAbs ≤ f.natAbs + 2 * s.natAbs + 1 ∧ h.r.natAbs ≤ f.natAbs + s.natAbs := by
  rcases I with ⟨rfl, rfl⟩ | I
  · dsimp only
    refine ⟨?_, ?_, ?_, ?_, ?_, ?_⟩ <;> omega
  · obtain ⟨h1, h2⟩ := I.ha
    have := I.la
    have := I.lb
    have := I.lr
    have := I.lt
    refine ⟨?_, ?_, ?_, ?_, ?_, ?_⟩ <;> omega
theorem WI.out {f s : Int} {l h : Tr} (I : WI f s l h) (z : h.r = 0) : (l.r < 0 → -l.a * f + -l.b * s = (Nat.gcd f.natAbs s.natAbs : Int)) ∧ (¬ l.r < 0 → l.a * f + l.b * s = (Nat.gcd f.natAbs s.natAbs : Int)) := by
  rcases I with ⟨rfl, rfl⟩ | I
  · dsimp only at z ⊢
    subst z
    simp
    omega
  · have e := I.el
    have g := I.last z
    constructor
    · intro n
      have : -l.a * f + -l.b * s = -(l.a * f + l.b * s) := by grind
      omega
    · intro n
      omega
/-- a loop of so many rounds -/
def MI (i : Nat) (f s : Int) (l h : Tr) : Prop := (i = 0 ∧ l = ⟨1, 0, f⟩ ∧ h = ⟨0, 1, s⟩) ∨ (0 < i ∧ In f s l h ∧ 2 ^ (i - 1) * (l.r.natAbs * h.r.natAbs) < 2 ^ 2003)
theorem MI.wi {i : Nat} {f s : Int} {l h : Tr} (I : MI i f s l h) : WI f s l h := by
  rcases I with ⟨_, e⟩ | ⟨_, I, _⟩
  · exact .inl e
  · exact .inr I
theorem MI.step {i : Nat} {f s : Int} {l h : Tr} (I : MI i f s l h) (hs : s.natAbs < 2 ^ 1000) (nz : h.r ≠ 0) : MI (i + 1) f s h (stp l h) := by
  refine .inr ⟨Nat.succ_pos _, I.wi.step nz, ?_⟩
  rw [Nat.add_sub_cancel]
  rcases I with ⟨rfl, rfl, rfl⟩ | ⟨hi, I, hp⟩
  · have h2 := (In.first f s nz).lt
    dsimp only at h2 ⊢
    rw [Nat.pow_zero, Nat.one_mul]
    have := Nat.mul_lt_mul_of_lt_of_lt hs (Nat.lt_trans h2 hs)
    have e : (2 : Nat) ^ 1000 * 2 ^ 1000 < 2 ^ 2003 := by rw [← Nat.pow_add]; exact Nat.pow_lt_pow_right (by decide) (by decide)
    exact Nat.lt_trans this e
  · have h2 := (I.step nz).2
    obtain ⟨j, rfl⟩ : ∃ j, i = j + 1 := ⟨i - 1, by omega⟩
    rw [Nat.add_sub_cancel] at hp
    have h3 := Nat.mul_le_mul_left (2 ^ j) (Nat.le_of_lt h2)
    rw [Nat.pow_succ, Nat.mul_assoc]
    exact Nat.lt_of_le_of_lt h3 hp
theorem MI.out {f s : Int} {l h : Tr} (I : MI 3000 f s l h) : h.r = 0 := by
  rcases I with ⟨z, _⟩ | ⟨_, I, hp⟩
  · omega
  · apply Classical.byContradiction
    intro z
    have h1 : 1 ≤ l.r.natAbs * h.r.natAbs := Nat.mul_pos (by have := I.lt; omega) (by omega)
    have h2 := Nat.mul_le_mul_left (2 ^ (3000 - 1)) h1
    rw [Nat.mul_one] at h2
    have e : (2 : Nat) ^ 2003 < 2 ^ (3000 - 1) := Nat.pow_lt_pow_right (by decide) (by decide)
    omega
/-- the same for the divisor alone -/
def GI (i : Nat) (x y : Nat) : Prop := x < 2 ^ 1000 ∧ y < 2 ^ 1000 ∧ (i = 0 ∨ (0 < i ∧ y < x ∧ 2 ^ (i - 1) * (x * y) < 2 ^ 2003))
theorem GI.step {i x y : Nat} (I : GI i x y) (nz : y ≠ 0) : GI (i + 1) y (x % y) := by
  obtain ⟨hx, hy, hp⟩ := I
  have hm : x % y < y := Nat.mod_lt _ (by omega)
  refine ⟨hy, by omega, .inr ⟨Nat.succ_pos _, hm, ?_⟩⟩
  rw [Nat.add_sub_cancel]
  rcases hp with rfl | ⟨hi, hl, hp⟩
  · rw [Nat.pow_zero, Nat.one_mul]
    have := Nat.mul_lt_mul_of_lt_of_lt hy (Nat.lt_trans hm hy)
    have e : (2 : Nat) ^ 1000 * 2 ^ 1000 < 2 ^ 2003 := by rw [← Nat.pow_add]; exact Nat.pow_lt_pow_right (by decide) (by decide)
    exact Nat.lt_trans this e
  · obtain ⟨j, rfl⟩ : ∃ j, i = j + 1 := ⟨i - 1, by omega⟩
    rw [Nat.add_sub_cancel] at hp
    have h2 : 2 * (x % y) ≤ x := by
      have e := Nat.div_add_mod x y
      have q : 1 ≤ x / y := Nat.div_pos (by omega) (by omega)
      have := Nat.mul_le_mul_left y q
      omega
    have h3 : 2 * (y * (x % y)) ≤ x * y := by
      have := Nat.mul_le_mul_left y h2
      rw [Nat.mul_comm x y]
      have e : y * (2 * (x % y)) = 2 * (y * (x % y)) := by grind
      omega
    have h4 := Nat.mul_le_mul_left (2 ^ j) h3
    rw [Nat.pow_succ, Nat.mul_assoc]
    exact Nat.lt_of_le_of_lt h4 hp
theorem GI.out {x y : Nat} (I : GI 3000 x y) : y = 0 := by
  obtain ⟨_, _, z | ⟨_, hl, hp⟩⟩ := I
  · omega
  · apply Classical.byContradiction
    intro z
    have h1 : 1 ≤ x * y := Nat.mul_pos (by omega) (by omega)
    have h2 := Nat.mul_le_mul_left (2 ^ (3000 - 1)) h1
    rw [Nat.mul_one] at h2
    have e : (2 : Nat) ^ 2003 < 2 ^ (3000 - 1) := Nat.pow_lt_pow_right (by decide) (by decide)
    omega
end Bz

set_option linter.all false
set_option maxRecDepth 100000
set_option maxHeartbeats 4000000
namespace AW
open PySem PySem.Spec PyProof.Rows L2
def top (i : Nat) : Stmt := PySem.Challenge.pw_areawalks_k71_whole_fewest_steps_told_in.main.body.getD i (.Pass ⟨0, 0, 0, 0⟩)
abbrev s_BadNumber_init : Stmt := inClass (top 4) 0
abbrev s_BadPlace_init : Stmt := inClass (top 5) 0
abbrev s_BadWord_init : Stmt := inClass (top 6) 0
abbrev s_is_integer : Stmt := top 9
abbrev s_is_whole : Stmt := top 10
abbrev s_check_integer : Stmt := top 11
abbrev s_check_from : Stmt := top 12
abbrev s_check_whole : Stmt := top 13
abbrev s_fewest_steps : Stmt := top 15
abbrev s_quotient_up : Stmt := top 16
abbrev s_half_outline : Stmt := top 17
abbrev s_best_sides : Stmt := top 18
abbrev s_spare_steps : Stmt := top 19
abbrev s_areas_of_walks : Stmt := top 20
abbrev s_Place_init : Stmt := inClass (top 22) 0
abbrev s_Place_eq : Stmt := inClass (top 22) 1
abbrev s_Place_mul : Stmt := inClass (top 22) 2
abbrev s_Place_invert : Stmt := inClass (top 22) 3
abbrev s_check_place : Stmt := top 23
abbrev s_home_place : Stmt := top 24
abbrev s_run_place : Stmt := top 29
abbrev s_is_run : Stmt := top 31
abbrev s_joined_runs : Stmt := top 32
abbrev s_Ready_init : Stmt := inClass (top 33) 0
abbrev s_told_runs : Stmt := top 34
abbrev s_corners : Stmt := top 36
abbrev s_Walk_init : Stmt := inClass (top 38) 0
abbrev s_Walk_length : Stmt := inClass (top 38) 4
abbrev s_Walk_place : Stmt := inClass (top 38) 5
abbrev s_Walk_head : Stmt := inClass (top 38) 7
abbrev s_Walk_at : Stmt := inClass (top 38) 9
abbrev s_Walk_is_least : Stmt := inClass (top 38) 14
abbrev s_Walk_first_not_least : Stmt := inClass (top 38) 15
abbrev s_ready_walk : Stmt := top 39
abbrev s_check_part : Stmt := top 40
abbrev s_first_too_many : Stmt := top 41
abbrev s_framed_walk : Stmt := top 43
abbrev s_climb : Stmt := top 44
abbrev s_steps : Stmt := top 46
abbrev s_distance : Stmt := top 47
abbrev s_least_walk : Stmt := top 48
abbrev s_walk_of : Stmt := top 49
abbrev s_areas : Stmt := top 50
abbrev s_nearer : Stmt := top 51
abbrev s_first_letters : Stmt := top 52
abbrev s_is_summit : Stmt := top 53
abbrev s_lies_between : Stmt := top 54
abbrev s_built_walk : Stmt := top 55
abbrev s_bezout : Stmt := top 57
abbrev s_cheapest_frame : Stmt := top 60
abbrev s_Bargain_init : Stmt := inClass (top 61) 0
abbrev s_Bargain_best : Stmt := inClass (top 61) 1
abbrev s_Bargain_frame_by_widths : Stmt := inClass (top 61) 2
abbrev s_Bargain_may_be_cheaper : Stmt := inClass (top 61) 3
abbrev s_Bargain_frame_by_costs : Stmt := inClass (top 61) 4
abbrev s_Bargain_least_cost : Stmt := inClass (top 61) 5
abbrev s_Bargain_frame_of_cost : Stmt := inClass (top 61) 6
abbrev s_Prices_init : Stmt := inClass (top 64) 0
abbrev s_Prices_least_price : Stmt := inClass (top 64) 3
abbrev s_Prices_frame : Stmt := inClass (top 64) 5
abbrev s_l_pen : Stmt := top 66
abbrev s_l_draw : Stmt := top 67
abbrev s_l_pick : Stmt := top 68
abbrev s_l_big : Stmt := top 69
abbrev s_l_whole : Stmt := top 70
abbrev s_l_place : Stmt := top 71
abbrev s_l_step : Stmt := top 72
abbrev s_l_drawn : Stmt := top 73
abbrev s_l_local_right : Stmt := top 74
abbrev s_l_walks_right : Stmt := top 75
abbrev s_l_walk_right : Stmt := top 76
abbrev s_law : Stmt := top 77
abbrev N_BadNumber_init : List Str := ["self", "value"]
abbrev P_BadNumber_init : List Str := ["self", "value"]
theorem sc_BadNumber_init : FnScope N_BadNumber_init P_BadNumber_init (defScope s_BadNumber_init) := ⟨rfl, rfl, rfl, by decide +kernel, rfl, by decide +kernel, by decide +kernel⟩
abbrev N_BadPlace_init : List Str := ["self", "value"]
abbrev P_BadPlace_init : List Str := ["self", "value"]
theorem sc_BadPlace_init : FnScope N_BadPlace_init P_BadPlace_init (defScope s_BadPlace_init) := ⟨rfl, rfl, rfl, by decide +kernel, rfl, by decide +kernel, by decide +kernel⟩
abbrev N_BadWord_init : List Str := ["self", "value"]
abbrev P_BadWord_init : List Str := ["self", "value"]
theorem sc_BadWord_init : FnScope N_BadWord_init P_BadWord_init (defScope s_BadWord_init) := ⟨rfl, rfl, rfl, by decide +kernel, rfl, by decide +kernel, by decide +kernel⟩
abbrev N_is_integer : List Str := ["value"]
abbrev P_is_integer : List Str := ["value"]
theorem sc_is_integer : FnScope N_is_integer P_is_integer (defScope s_is_integer) := ⟨rfl, rfl, rfl, by decide +kernel, rfl, by decide +kernel, by decide +kernel⟩
abbrev N_is_whole : List Str := ["value"]
abbrev P_is_whole : List Str := ["value"]
theorem sc_is_whole : FnScope N_is_whole P_is_whole (defScope s_is_whole) := ⟨rfl, rfl, rfl, by decide +kernel, rfl, by decide +kernel, by decide +kernel⟩
abbrev N_check_integer : List Str := ["value"]
abbrev P_check_integer : List Str := ["value"]
theorem sc_check_integer : FnScope N_check_integer P_check_integer (defScope s_check_integer) := ⟨rfl, rfl, rfl, by decide +kernel, rfl, by decide +kernel, by decide +kernel⟩
abbrev N_check_from : List Str := ["value", "least"]
abbrev P_check_from : List Str := ["value", "least"]
theorem sc_check_from : FnScope N_check_from P_check_from (defScope s_check_from) := ⟨rfl, rfl, rfl, by decide +kernel, rfl, by decide +kernel, by decide +kernel⟩
abbrev N_check_whole : List Str := ["value"]
abbrev P_check_whole : List Str := ["value"]
theorem sc_check_whole : FnScope N_check_whole P_check_whole (defScope s_check_whole) := ⟨rfl, rfl, rfl, by decide +kernel, rfl, by decide +kernel, by decide +kernel⟩
abbrev N_fewest_steps : List Str := ["place", "longer", "shorter", "area"]
abbrev P_fewest_steps : List Str := ["place"]
theorem sc_fewest_steps : FnScope N_fewest_steps P_fewest_steps (defScope s_fewest_steps) := ⟨rfl, rfl, rfl, by decide +kernel, rfl, by decide +kernel, by decide +kernel⟩
abbrev N_quotient_up : List Str := ["number", "divisor"]
abbrev P_quotient_up : List Str := ["number", "divisor"]
theorem sc_quotient_up : FnScope N_quotient_up P_quotient_up (defScope s_quotient_up) := ⟨rfl, rfl, rfl, by decide +kernel, rfl, by decide +kernel, by decide +kernel⟩
abbrev N_half_outline : List Str := ["area"]
abbrev P_half_outline : List Str := ["area"]
theorem sc_half_outline : FnScope N_half_outline P_half_outline (defScope s_half_outline) := ⟨rfl, rfl, rfl, by decide +kernel, rfl, by decide +kernel, by decide +kernel⟩
abbrev N_best_sides : List Str := ["across", "up", "spare", "total", "width"]
abbrev P_best_sides : List Str := ["across", "up", "spare"]
theorem sc_best_sides : FnScope N_best_sides P_best_sides (defScope s_best_sides) := ⟨rfl, rfl, rfl, by decide +kernel, rfl, by decide +kernel, by decide +kernel⟩
abbrev N_spare_steps : List Str := ["x", "y", "number", "beyond"]
abbrev P_spare_steps : List Str := ["x", "y", "number"]
theorem sc_spare_steps : FnScope N_spare_steps P_spare_steps (defScope s_spare_steps) := ⟨rfl, rfl, rfl, by decide +kernel, rfl, by decide +kernel, by decide +kernel⟩
abbrev N_areas_of_walks : List Str := ["x", "y", "number", "spare", "width", "height"]
abbrev P_areas_of_walks : List Str := ["x", "y", "number"]
theorem sc_areas_of_walks : FnScope N_areas_of_walks P_areas_of_walks (defScope s_areas_of_walks) := ⟨rfl, rfl, rfl, by decide +kernel, rfl, by decide +kernel, by decide +kernel⟩
abbrev N_Place_init : List Str := ["self", "x", "y", "area", "value"]
abbrev P_Place_init : List Str := ["self", "x", "y", "area"]
theorem sc_Place_init : FnScope N_Place_init P_Place_init (defScope s_Place_init) := ⟨rfl, rfl, rfl, by decide +kernel, rfl, by decide +kernel, by decide +kernel⟩
abbrev N_Place_eq : List Str := ["self", "other"]
abbrev P_Place_eq : List Str := ["self", "other"]
theorem sc_Place_eq : FnScope N_Place_eq P_Place_eq (defScope s_Place_eq) := ⟨rfl, rfl, rfl, by decide +kernel, rfl, by decide +kernel, by decide +kernel⟩
abbrev N_Place_mul : List Str := ["self", "other"]
abbrev P_Place_mul : List Str := ["self", "other"]
theorem sc_Place_mul : FnScope N_Place_mul P_Place_mul (defScope s_Place_mul) := ⟨rfl, rfl, rfl, by decide +kernel, rfl, by decide +kernel, by decide +kernel⟩
abbrev N_Place_invert : List Str := ["self"]
abbrev P_Place_invert : List Str := ["self"]
theorem sc_Place_invert : FnScope N_Place_invert P_Place_invert (defScope s_Place_invert) := ⟨rfl, rfl, rfl, by decide +kernel, rfl, by decide +kernel, by decide +kernel⟩
abbrev N_check_place : List Str := ["value"]
abbrev P_check_place : List Str := ["value"]
theorem sc_check_place : FnScope N_check_place P_check_place (defScope s_check_place) := ⟨rfl, rfl, rfl, by decide +kernel, rfl, by decide +kernel, by decide +kernel⟩
abbrev N_home_place : List Str := []
abbrev P_home_place : List Str := []
theorem sc_home_place : FnScope N_home_place P_home_place (defScope s_home_place) := ⟨rfl, rfl, rfl, by decide +kernel, rfl, by decide +kernel, by decide +kernel⟩
abbrev N_run_place : List Str := ["letter", "times", "across", "up"]
abbrev P_run_place : List Str := ["letter", "times"]
theorem sc_run_place : FnScope N_run_place P_run_place (defScope s_run_place) := ⟨rfl, rfl, rfl, by decide +kernel, rfl, by decide +kernel, by decide +kernel⟩
abbrev N_is_run : List Str := ["pair", "letter", "times"]
abbrev P_is_run : List Str := ["pair"]
theorem sc_is_run : FnScope N_is_run P_is_run (defScope s_is_run) := ⟨rfl, rfl, rfl, by decide +kernel, rfl, by decide +kernel, by decide +kernel⟩
abbrev N_joined_runs : List Str := ["pairs", "runs", "last", "count", "letter", "times"]
abbrev P_joined_runs : List Str := ["pairs"]
theorem sc_joined_runs : FnScope N_joined_runs P_joined_runs (defScope s_joined_runs) := ⟨rfl, rfl, rfl, by decide +kernel, rfl, by decide +kernel, by decide +kernel⟩
abbrev N_Ready_init : List Str := ["self", "runs"]
abbrev P_Ready_init : List Str := ["self", "runs"]
theorem sc_Ready_init : FnScope N_Ready_init P_Ready_init (defScope s_Ready_init) := ⟨rfl, rfl, rfl, by decide +kernel, rfl, by decide +kernel, by decide +kernel⟩
abbrev N_told_runs : List Str := ["told", "letter", "pair"]
abbrev P_told_runs : List Str := ["told"]
theorem sc_told_runs : FnScope N_told_runs P_told_runs (defScope s_told_runs) := ⟨rfl, rfl, rfl, by decide +kernel, rfl, by decide +kernel, by decide +kernel⟩
abbrev N_corners : List Str := ["runs", "x", "y", "area", "points", "letter", "times", "across", "up"]
abbrev P_corners : List Str := ["runs"]
theorem sc_corners : FnScope N_corners P_corners (defScope s_corners) := ⟨rfl, rfl, rfl, by decide +kernel, rfl, by decide +kernel, by decide +kernel⟩
abbrev N_Walk_init : List Str := ["self", "told", "runs"]
abbrev P_Walk_init : List Str := ["self", "told"]
theorem sc_Walk_init : FnScope N_Walk_init P_Walk_init (defScope s_Walk_init) := ⟨rfl, rfl, rfl, by decide +kernel, rfl, by decide +kernel, by decide +kernel⟩
abbrev N_Walk_length : List Str := ["self", "run"]
abbrev P_Walk_length : List Str := ["self"]
theorem sc_Walk_length : FnScope N_Walk_length P_Walk_length (defScope s_Walk_length) := ⟨rfl, rfl, rfl, by decide +kernel, rfl, by decide +kernel, by decide +kernel⟩
abbrev N_Walk_place : List Str := ["self", "x", "y", "area"]
abbrev P_Walk_place : List Str := ["self"]
theorem sc_Walk_place : FnScope N_Walk_place P_Walk_place (defScope s_Walk_place) := ⟨rfl, rfl, rfl, by decide +kernel, rfl, by decide +kernel, by decide +kernel⟩
abbrev N_Walk_head : List Str := ["self", "number", "runs", "left", "letter", "times", "taken"]
abbrev P_Walk_head : List Str := ["self", "number"]
theorem sc_Walk_head : FnScope N_Walk_head P_Walk_head (defScope s_Walk_head) := ⟨rfl, rfl, rfl, by decide +kernel, rfl, by decide +kernel, by decide +kernel⟩
abbrev N_Walk_at : List Str := ["self", "number"]
abbrev P_Walk_at : List Str := ["self", "number"]
theorem sc_Walk_at : FnScope N_Walk_at P_Walk_at (defScope s_Walk_at) := ⟨rfl, rfl, rfl, by decide +kernel, rfl, by decide +kernel, by decide +kernel⟩
abbrev N_Walk_is_least : List Str := ["self"]
abbrev P_Walk_is_least : List Str := ["self"]
theorem sc_Walk_is_least : FnScope N_Walk_is_least P_Walk_is_least (defScope s_Walk_is_least) := ⟨rfl, rfl, rfl, by decide +kernel, rfl, by decide +kernel, by decide +kernel⟩
abbrev N_Walk_first_not_least : List Str := ["self", "places", "done", "at", "letter", "times", "point"]
abbrev P_Walk_first_not_least : List Str := ["self"]
theorem sc_Walk_first_not_least : FnScope N_Walk_first_not_least P_Walk_first_not_least (defScope s_Walk_first_not_least) := ⟨rfl, rfl, rfl, by decide +kernel, rfl, by decide +kernel, by decide +kernel⟩
abbrev N_ready_walk : List Str := ["runs"]
abbrev P_ready_walk : List Str := ["runs"]
theorem sc_ready_walk : FnScope N_ready_walk P_ready_walk (defScope s_ready_walk) := ⟨rfl, rfl, rfl, by decide +kernel, rfl, by decide +kernel, by decide +kernel⟩
abbrev N_check_part : List Str := ["walk", "number"]
abbrev P_check_part : List Str := ["walk", "number"]
theorem sc_check_part : FnScope N_check_part P_check_part (defScope s_check_part) := ⟨rfl, rfl, rfl, by decide +kernel, rfl, by decide +kernel, by decide +kernel⟩
abbrev N_first_too_many : List Str := ["place", "letter", "done", "times", "low", "high", "middle"]
abbrev P_first_too_many : List Str := ["place", "letter", "done", "times"]
theorem sc_first_too_many : FnScope N_first_too_many P_first_too_many (defScope s_first_too_many) := ⟨rfl, rfl, rfl, by decide +kernel, rfl, by decide +kernel, by decide +kernel⟩
abbrev N_framed_walk : List Str := ["place", "width", "height", "across", "up", "east", "west", "north", "south", "area", "climbed"]
abbrev P_framed_walk : List Str := ["place", "width", "height"]
theorem sc_framed_walk : FnScope N_framed_walk P_framed_walk (defScope s_framed_walk) := ⟨rfl, rfl, rfl, by decide +kernel, rfl, by decide +kernel, by decide +kernel⟩
abbrev N_climb : List Str := ["width", "height", "area", "east", "north", "full", "extra", "bend"]
abbrev P_climb : List Str := ["width", "height", "area", "east", "north"]
theorem sc_climb : FnScope N_climb P_climb (defScope s_climb) := ⟨rfl, rfl, rfl, by decide +kernel, rfl, by decide +kernel, by decide +kernel⟩
abbrev N_steps : List Str := ["place"]
abbrev P_steps : List Str := ["place"]
theorem sc_steps : FnScope N_steps P_steps (defScope s_steps) := ⟨rfl, rfl, rfl, by decide +kernel, rfl, by decide +kernel, by decide +kernel⟩
abbrev N_distance : List Str := ["one", "other"]
abbrev P_distance : List Str := ["one", "other"]
theorem sc_distance : FnScope N_distance P_distance (defScope s_distance) := ⟨rfl, rfl, rfl, by decide +kernel, rfl, by decide +kernel, by decide +kernel⟩
abbrev N_least_walk : List Str := ["place"]
abbrev P_least_walk : List Str := ["place"]
theorem sc_least_walk : FnScope N_least_walk P_least_walk (defScope s_least_walk) := ⟨rfl, rfl, rfl, by decide +kernel, rfl, by decide +kernel, by decide +kernel⟩
abbrev N_walk_of : List Str := ["place", "number", "bounds"]
abbrev P_walk_of : List Str := ["place", "number"]
theorem sc_walk_of : FnScope N_walk_of P_walk_of (defScope s_walk_of) := ⟨rfl, rfl, rfl, by decide +kernel, rfl, by decide +kernel, by decide +kernel⟩
abbrev N_areas : List Str := ["x", "y", "number"]
abbrev P_areas : List Str := ["x", "y", "number"]
theorem sc_areas : FnScope N_areas P_areas (defScope s_areas) := ⟨rfl, rfl, rfl, by decide +kernel, rfl, by decide +kernel, by decide +kernel⟩
abbrev N_nearer : List Str := ["place", "number", "letter"]
abbrev P_nearer : List Str := ["place"]
theorem sc_nearer : FnScope N_nearer P_nearer (defScope s_nearer) := ⟨rfl, rfl, rfl, by decide +kernel, rfl, by decide +kernel, by decide +kernel⟩
abbrev N_first_letters : List Str := ["place", "number", "letter"]
abbrev P_first_letters : List Str := ["place"]
theorem sc_first_letters : FnScope N_first_letters P_first_letters (defScope s_first_letters) := ⟨rfl, rfl, rfl, by decide +kernel, rfl, by decide +kernel, by decide +kernel⟩
abbrev N_is_summit : List Str := ["place"]
abbrev P_is_summit : List Str := ["place"]
theorem sc_is_summit : FnScope N_is_summit P_is_summit (defScope s_is_summit) := ⟨rfl, rfl, rfl, by decide +kernel, rfl, by decide +kernel, by decide +kernel⟩
abbrev N_lies_between : List Str := ["place", "one", "other", "value"]
abbrev P_lies_between : List Str := ["place", "one", "other"]
theorem sc_lies_between : FnScope N_lies_between P_lies_between (defScope s_lies_between) := ⟨rfl, rfl, rfl, by decide +kernel, rfl, by decide +kernel, by decide +kernel⟩
abbrev N_built_walk : List Str := ["place", "number", "across", "up", "width", "height"]
abbrev P_built_walk : List Str := ["place", "number"]
theorem sc_built_walk : FnScope N_built_walk P_built_walk (defScope s_built_walk) := ⟨rfl, rfl, rfl, by decide +kernel, rfl, by decide +kernel, by decide +kernel⟩
abbrev N_bezout : List Str := ["first", "second", "low", "high", "times", "one", "other"]
abbrev P_bezout : List Str := ["first", "second"]
theorem sc_bezout : FnScope N_bezout P_bezout (defScope s_bezout) := ⟨rfl, rfl, rfl, by decide +kernel, rfl, by decide +kernel, by decide +kernel⟩
abbrev N_cheapest_frame : List Str := ["across", "up", "product", "wide", "high", "height", "width"]
abbrev P_cheapest_frame : List Str := ["across", "up", "product", "wide", "high"]
theorem sc_cheapest_frame : FnScope N_cheapest_frame P_cheapest_frame (defScope s_cheapest_frame) := ⟨rfl, rfl, rfl, by decide +kernel, rfl, by decide +kernel, by decide +kernel⟩
abbrev N_Bargain_init : List Str := ["self", "across", "up", "product", "wide", "high", "common"]
abbrev P_Bargain_init : List Str := ["self", "across", "up", "product", "wide", "high"]
theorem sc_Bargain_init : FnScope N_Bargain_init P_Bargain_init (defScope s_Bargain_init) := ⟨rfl, rfl, rfl, by decide +kernel, rfl, by decide +kernel, by decide +kernel⟩
abbrev N_Bargain_best : List Str := ["self", "best", "start", "square", "rise"]
abbrev P_Bargain_best : List Str := ["self"]
theorem sc_Bargain_best : FnScope N_Bargain_best P_Bargain_best (defScope s_Bargain_best) := ⟨rfl, rfl, rfl, by decide +kernel, rfl, by decide +kernel, by decide +kernel⟩
abbrev N_Bargain_frame_by_widths : List Str := ["self", "start", "best", "first", "step", "width", "height", "found"]
abbrev P_Bargain_frame_by_widths : List Str := ["self", "start"]
theorem sc_Bargain_frame_by_widths : FnScope N_Bargain_frame_by_widths P_Bargain_frame_by_widths (defScope s_Bargain_frame_by_widths) := ⟨rfl, rfl, rfl, by decide +kernel, rfl, by decide +kernel, by decide +kernel⟩
abbrev N_Bargain_may_be_cheaper : List Str := ["self", "width", "best"]
abbrev P_Bargain_may_be_cheaper : List Str := ["self", "width", "best"]
theorem sc_Bargain_may_be_cheaper : FnScope N_Bargain_may_be_cheaper P_Bargain_may_be_cheaper (defScope s_Bargain_may_be_cheaper) := ⟨rfl, rfl, rfl, by decide +kernel, rfl, by decide +kernel, by decide +kernel⟩
abbrev N_Bargain_frame_by_costs : List Str := ["self", "turn", "cost", "found"]
abbrev P_Bargain_frame_by_costs : List Str := ["self"]
theorem sc_Bargain_frame_by_costs : FnScope N_Bargain_frame_by_costs P_Bargain_frame_by_costs (defScope s_Bargain_frame_by_costs) := ⟨rfl, rfl, rfl, by decide +kernel, rfl, by decide +kernel, by decide +kernel⟩
abbrev N_Bargain_least_cost : List Str := ["self", "wide", "high", "product"]
abbrev P_Bargain_least_cost : List Str := ["self"]
theorem sc_Bargain_least_cost : FnScope N_Bargain_least_cost P_Bargain_least_cost (defScope s_Bargain_least_cost) := ⟨rfl, rfl, rfl, by decide +kernel, rfl, by decide +kernel, by decide +kernel⟩
abbrev N_Bargain_frame_of_cost : List Str := ["self", "cost", "some_width", "peak", "below", "width", "height"]
abbrev P_Bargain_frame_of_cost : List Str := ["self", "cost", "some_width"]
theorem sc_Bargain_frame_of_cost : FnScope N_Bargain_frame_of_cost P_Bargain_frame_of_cost (defScope s_Bargain_frame_of_cost) := ⟨rfl, rfl, rfl, by decide +kernel, rfl, by decide +kernel, by decide +kernel⟩
abbrev N_Prices_init : List Str := ["self", "east", "north", "west", "south", "value"]
abbrev P_Prices_init : List Str := ["self", "east", "north", "west", "south"]
theorem sc_Prices_init : FnScope N_Prices_init P_Prices_init (defScope s_Prices_init) := ⟨rfl, rfl, rfl, by decide +kernel, rfl, by decide +kernel, by decide +kernel⟩
abbrev N_Prices_least_price : List Str := ["self", "place", "across", "up", "width", "height", "straight"]
abbrev P_Prices_least_price : List Str := ["self", "place"]
theorem sc_Prices_least_price : FnScope N_Prices_least_price P_Prices_least_price (defScope s_Prices_least_price) := ⟨rfl, rfl, rfl, by decide +kernel, rfl, by decide +kernel, by decide +kernel⟩
abbrev N_Prices_frame : List Str := ["self", "place", "flat", "product"]
abbrev P_Prices_frame : List Str := ["self", "place"]
theorem sc_Prices_frame : FnScope N_Prices_frame P_Prices_frame (defScope s_Prices_frame) := ⟨rfl, rfl, rfl, by decide +kernel, rfl, by decide +kernel, by decide +kernel⟩
abbrev N_l_pen : List Str := ["_law_script"]
abbrev P_l_pen : List Str := ["_law_script"]
theorem sc_l_pen : FnScope N_l_pen P_l_pen (defScope s_l_pen) := ⟨rfl, rfl, rfl, by decide +kernel, rfl, by decide +kernel, by decide +kernel⟩
abbrev N_l_draw : List Str := ["_law_pen_here", "_law_many", "_law_digit", "_law_stop", "_law_cell", "_law_blend"]
abbrev P_l_draw : List Str := ["_law_pen_here", "_law_many"]
theorem sc_l_draw : FnScope N_l_draw P_l_draw (defScope s_l_draw) := ⟨rfl, rfl, rfl, by decide +kernel, rfl, by decide +kernel, by decide +kernel⟩
abbrev N_l_pick : List Str := ["_law_pen_here", "_law_items"]
abbrev P_l_pick : List Str := ["_law_pen_here", "_law_items"]
theorem sc_l_pick : FnScope N_l_pick P_l_pick (defScope s_l_pick) := ⟨rfl, rfl, rfl, by decide +kernel, rfl, by decide +kernel, by decide +kernel⟩
abbrev N_l_big : List Str := ["_law_pen_here", "_law_size", "_law_found", "_law_k"]
abbrev P_l_big : List Str := ["_law_pen_here", "_law_size"]
theorem sc_l_big : FnScope N_l_big P_l_big (defScope s_l_big) := ⟨rfl, rfl, rfl, by decide +kernel, rfl, by decide +kernel, by decide +kernel⟩
abbrev N_l_whole : List Str := ["_law_pen_here", "_law_size"]
abbrev P_l_whole : List Str := ["_law_pen_here", "_law_size"]
theorem sc_l_whole : FnScope N_l_whole P_l_whole (defScope s_l_whole) := ⟨rfl, rfl, rfl, by decide +kernel, rfl, by decide +kernel, by decide +kernel⟩
abbrev N_l_place : List Str := ["_law_pen_here", "_law_size"]
abbrev P_l_place : List Str := ["_law_pen_here", "_law_size"]
theorem sc_l_place : FnScope N_l_place P_l_place (defScope s_l_place) := ⟨rfl, rfl, rfl, by decide +kernel, rfl, by decide +kernel, by decide +kernel⟩
abbrev N_l_step : List Str := ["_law_letter"]
abbrev P_l_step : List Str := ["_law_letter"]
theorem sc_l_step : FnScope N_l_step P_l_step (defScope s_l_step) := ⟨rfl, rfl, rfl, by decide +kernel, rfl, by decide +kernel, by decide +kernel⟩
abbrev N_l_drawn : List Str := ["_law_pen_here", "_law_lot"]
abbrev P_l_drawn : List Str := ["_law_pen_here"]
theorem sc_l_drawn : FnScope N_l_drawn P_l_drawn (defScope s_l_drawn) := ⟨rfl, rfl, rfl, by decide +kernel, rfl, by decide +kernel, by decide +kernel⟩
abbrev N_l_local_right : List Str := ["_law_place_here", "_law_here", "_law_near", "_law_letter", "_law_there", "_law_begun"]
abbrev P_l_local_right : List Str := ["_law_place_here"]
theorem sc_l_local_right : FnScope N_l_local_right P_l_local_right (defScope s_l_local_right) := ⟨rfl, rfl, rfl, by decide +kernel, rfl, by decide +kernel, by decide +kernel⟩
abbrev N_l_walks_right : List Str := ["_law_pen_here", "_law_place_here", "_law_here", "_law_walk", "_law_many", "_law_spot", "_law_more", "_law_made", "_law_span", "_law_can"]
abbrev P_l_walks_right : List Str := ["_law_pen_here", "_law_place_here"]
theorem sc_l_walks_right : FnScope N_l_walks_right P_l_walks_right (defScope s_l_walks_right) := ⟨rfl, rfl, rfl, by decide +kernel, rfl, by decide +kernel, by decide +kernel⟩
abbrev N_l_walk_right : List Str := ["_law_pen_here", "_law_runs", "_law_k", "_law_walk", "_law_least", "_law_told"]
abbrev P_l_walk_right : List Str := ["_law_pen_here"]
theorem sc_l_walk_right : FnScope N_l_walk_right P_l_walk_right (defScope s_l_walk_right) := ⟨rfl, rfl, rfl, by decide +kernel, rfl, by decide +kernel, by decide +kernel⟩
abbrev N_law : List Str := ["_law_script", "_law_pen_here", "_law_lap", "_law_one", "_law_other", "_law_third", "_law_here", "_law_there"]
abbrev P_law : List Str := ["_law_script"]
theorem sc_law : FnScope N_law P_law (defScope s_law) := ⟨rfl, rfl, rfl, by decide +kernel, rfl, by decide +kernel, by decide +kernel⟩
/-- a def whose code object is known -/
structure FunC (K : PySem.W.Frag) (x qual : Str) (st : Stmt) (f : Addr) (fd : FuncData) (c : Addr) : Prop where
  ex : ∃ (oc : Value) (od : Option Addr) (kV doc pm : Value) (an : Option Addr) (ct : Value) (osl : Array (Option Value)),
    fd = PySem.W.fnOf x qual (defArgs st) (defBody st) (defScope st) .none kV doc pm an (.ref c) ct ∧ K.lookup f = some ⟨oc, od, .func fd, osl⟩ ∧ PySem.W.codeIn K (.ref c) qual = true
  kp : PySem.W.keepIn K (.ref f) = true
section
variable {P : Program} {w : World} {K : PySem.W.Frag} {mg : Str → Option Value} {base : Heap}
theorem FunC.okX {x qual : Str} {st : Stmt} {f : Addr} {fd : FuncData} {c : Addr} {N ps : List Str} {k : Nat} {sp : Sp} (F : FunC K x qual st f fd c) (S : FnScope N ps (defScope st)) (len : ∀ vs H Q E, sp vs H Q E → vs.length = ps.length)
    (hbody : ∀ (A : Around) (outer : List Env) (s : Shared) (H : Hp) (vs : List V) (Q : VK) (E : XK), Room k (A.deeper (envOfC qual (defScope st) s.heap.objs.size f (.ref c))) → sp vs H Q E →
      ∃ t, PSs (cxOf (L2.CX P w) P w K mg base N qual (defScope st) f (.ref c) A outer s H E) (defBody st) t ∧ t { nx := fun _ H' => Q .non H', rt := Q } (start N vs) H) : FnOk P w K mg base (L2.CX P w) (k + 1) f fd ps sp := by
  obtain ⟨oc, od, kV, doc, pm, an, ct, osl, rfl, lk, hcd⟩ := F.ex
  exact fn_of lk hcd S len fun A outer s H vs Q E hr hsp => hbody A outer s H vs Q E hr hsp
end
set_option genInjectivity false in
set_option genSizeOf false in
set_option genSizeOfSpec false in
/-- what the top has left -/
structure Tx (K : PySem.W.Frag) (mg : Str → Option Value) where
  a_is_integer : Addr
  d_is_integer : FuncData
  F_is_integer : Fun K "is_integer" "is_integer" s_is_integer a_is_integer d_is_integer
  b_is_integer : Binds K d_is_integer P_is_integer []
  g_is_integer : mg "is_integer" = some (.ref a_is_integer)
  a_is_whole : Addr
  d_is_whole : FuncData
  F_is_whole : Fun K "is_whole" "is_whole" s_is_whole a_is_whole d_is_whole
  b_is_whole : Binds K d_is_whole P_is_whole []
  g_is_whole : mg "is_whole" = some (.ref a_is_whole)
  a_check_integer : Addr
  d_check_integer : FuncData
  F_check_integer : Fun K "check_integer" "check_integer" s_check_integer a_check_integer d_check_integer
  b_check_integer : Binds K d_check_integer P_check_integer []
  g_check_integer : mg "check_integer" = some (.ref a_check_integer)
  a_check_from : Addr
  d_check_from : FuncData
  F_check_from : Fun K "check_from" "check_from" s_check_from a_check_from d_check_from
  b_check_from : Binds K d_check_from P_check_from []
  g_check_from : mg "check_from" = some (.ref a_check_from)
  a_check_whole : Addr
  d_check_whole : FuncData
  F_check_whole : Fun K "check_whole" "check_whole" s_check_whole a_check_whole d_check_whole
  b_check_whole : Binds K d_check_whole P_check_whole []
  g_check_whole : mg "check_whole" = some (.ref a_check_whole)
  a_fewest_steps : Addr
  d_fewest_steps : FuncData
  F_fewest_steps : Fun K "fewest_steps" "fewest_steps" s_fewest_steps a_fewest_steps d_fewest_steps
  b_fewest_steps : Binds K d_fewest_steps P_fewest_steps []
  g_fewest_steps : mg "fewest_steps" = some (.ref a_fewest_steps)
  a_quotient_up : Addr
  d_quotient_up : FuncData
  F_quotient_up : Fun K "quotient_up" "quotient_up" s_quotient_up a_quotient_up d_quotient_up
  b_quotient_up : Binds K d_quotient_up P_quotient_up []
  g_quotient_up : mg "quotient_up" = some (.ref a_quotient_up)
  a_half_outline : Addr
  d_half_outline : FuncData
  F_half_outline : Fun K "half_outline" "half_outline" s_half_outline a_half_outline d_half_outline
  b_half_outline : Binds K d_half_outline P_half_outline []
  g_half_outline : mg "half_outline" = some (.ref a_half_outline)
  a_best_sides : Addr
  d_best_sides : FuncData
  F_best_sides : Fun K "best_sides" "best_sides" s_best_sides a_best_sides d_best_sides
  b_best_sides : Binds K d_best_sides P_best_sides []
  g_best_sides : mg "best_sides" = some (.ref a_best_sides)
  a_spare_steps : Addr
  d_spare_steps : FuncData
  F_spare_steps : Fun K "spare_steps" "spare_steps" s_spare_steps a_spare_steps d_spare_steps
  b_spare_steps : Binds K d_spare_steps P_spare_steps []
  g_spare_steps : mg "spare_steps" = some (.ref a_spare_steps)
  a_areas_of_walks : Addr
  d_areas_of_walks : FuncData
  F_areas_of_walks : Fun K "areas_of_walks" "areas_of_walks" s_areas_of_walks a_areas_of_walks d_areas_of_walks
  b_areas_of_walks : Binds K d_areas_of_walks P_areas_of_walks []
  g_areas_of_walks : mg "areas_of_walks" = some (.ref a_areas_of_walks)
  a_check_place : Addr
  d_check_place : FuncData
  F_check_place : Fun K "check_place" "check_place" s_check_place a_check_place d_check_place
  b_check_place : Binds K d_check_place P_check_place []
  g_check_place : mg "check_place" = some (.ref a_check_place)
  a_home_place : Addr
  d_home_place : FuncData
  F_home_place : Fun K "home_place" "home_place" s_home_place a_home_place d_home_place
  b_home_place : Binds K d_home_place P_home_place []
  g_home_place : mg "home_place" = some (.ref a_home_place)
  a_run_place : Addr
  d_run_place : FuncData
  F_run_place : Fun K "run_place" "run_place" s_run_place a_run_place d_run_place
  b_run_place : Binds K d_run_place P_run_place []
  g_run_place : mg "run_place" = some (.ref a_run_place)
  a_is_run : Addr
  d_is_run : FuncData
  F_is_run : Fun K "is_run" "is_run" s_is_run a_is_run d_is_run
  b_is_run : Binds K d_is_run P_is_run []
  g_is_run : mg "is_run" = some (.ref a_is_run)
  a_joined_runs : Addr
  d_joined_runs : FuncData
  F_joined_runs : Fun K "joined_runs" "joined_runs" s_joined_runs a_joined_runs d_joined_runs
  b_joined_runs : Binds K d_joined_runs P_joined_runs []
  g_joined_runs : mg "joined_runs" = some (.ref a_joined_runs)
  a_told_runs : Addr
  d_told_runs : FuncData
  F_told_runs : Fun K "told_runs" "told_runs" s_told_runs a_told_runs d_told_runs
  b_told_runs : Binds K d_told_runs P_told_runs []
  g_told_runs : mg "told_runs" = some (.ref a_told_runs)
  a_corners : Addr
  d_corners : FuncData
  F_corners : Fun K "corners" "corners" s_corners a_corners d_corners
  b_corners : Binds K d_corners P_corners []
  g_corners : mg "corners" = some (.ref a_corners)
  a_ready_walk : Addr
  d_ready_walk : FuncData
  F_ready_walk : Fun K "ready_walk" "ready_walk" s_ready_walk a_ready_walk d_ready_walk
  b_ready_walk : Binds K d_ready_walk P_ready_walk []
  g_ready_walk : mg "ready_walk" = some (.ref a_ready_walk)
  a_check_part : Addr
  d_check_part : FuncData
  F_check_part : Fun K "check_part" "check_part" s_check_part a_check_part d_check_part
  b_check_part : Binds K d_check_part P_check_part []
  g_check_part : mg "check_part" = some (.ref a_check_part)
  a_first_too_many : Addr
  d_first_too_many : FuncData
  F_first_too_many : Fun K "first_too_many" "first_too_many" s_first_too_many a_first_too_many d_first_too_many
  b_first_too_many : Binds K d_first_too_many P_first_too_many []
  g_first_too_many : mg "first_too_many" = some (.ref a_first_too_many)
  a_framed_walk : Addr
  d_framed_walk : FuncData
  F_framed_walk : Fun K "framed_walk" "framed_walk" s_framed_walk a_framed_walk d_framed_walk
  b_framed_walk : Binds K d_framed_walk P_framed_walk []
  g_framed_walk : mg "framed_walk" = some (.ref a_framed_walk)
  a_climb : Addr
  d_climb : FuncData
  F_climb : Fun K "climb" "climb" s_climb a_climb d_climb
  b_climb : Binds K d_climb P_climb []
  g_climb : mg "climb" = some (.ref a_climb)
  a_steps : Addr
  d_steps : FuncData
  F_steps : Fun K "steps" "steps" s_steps a_steps d_steps
  b_steps : Binds K d_steps P_steps []
  g_steps : mg "steps" = some (.ref a_steps)
  a_distance : Addr
  d_distance : FuncData
  F_distance : Fun K "distance" "distance" s_distance a_distance d_distance
  b_distance : Binds K d_distance P_distance []
  g_distance : mg "distance" = some (.ref a_distance)
  a_least_walk : Addr
  d_least_walk : FuncData
  F_least_walk : Fun K "least_walk" "least_walk" s_least_walk a_least_walk d_least_walk
  b_least_walk : Binds K d_least_walk P_least_walk []
  g_least_walk : mg "least_walk" = some (.ref a_least_walk)
  a_walk_of : Addr
  d_walk_of : FuncData
  F_walk_of : Fun K "walk_of" "walk_of" s_walk_of a_walk_of d_walk_of
  b_walk_of : Binds K d_walk_of P_walk_of []
  g_walk_of : mg "walk_of" = some (.ref a_walk_of)
  a_areas : Addr
  d_areas : FuncData
  F_areas : Fun K "areas" "areas" s_areas a_areas d_areas
  b_areas : Binds K d_areas P_areas []
  g_areas : mg "areas" = some (.ref a_areas)
  a_nearer : Addr
  d_nearer : FuncData
  F_nearer : Fun K "nearer" "nearer" s_nearer a_nearer d_nearer
  b_nearer : Binds K d_nearer P_nearer []
  g_nearer : mg "nearer" = some (.ref a_nearer)
  a_first_letters : Addr
  d_first_letters : FuncData
  F_first_letters : Fun K "first_letters" "first_letters" s_first_letters a_first_letters d_first_letters
  b_first_letters : Binds K d_first_letters P_first_letters []
  g_first_letters : mg "first_letters" = some (.ref a_first_letters)
  a_is_summit : Addr
  d_is_summit : FuncData
  F_is_summit : Fun K "is_summit" "is_summit" s_is_summit a_is_summit d_is_summit
  b_is_summit : Binds K d_is_summit P_is_summit []
  g_is_summit : mg "is_summit" = some (.ref a_is_summit)
  a_lies_between : Addr
  d_lies_between : FuncData
  F_lies_between : Fun K "lies_between" "lies_between" s_lies_between a_lies_between d_lies_between
  b_lies_between : Binds K d_lies_between P_lies_between []
  g_lies_between : mg "lies_between" = some (.ref a_lies_between)
  a_built_walk : Addr
  d_built_walk : FuncData
  F_built_walk : Fun K "built_walk" "built_walk" s_built_walk a_built_walk d_built_walk
  b_built_walk : Binds K d_built_walk P_built_walk []
  g_built_walk : mg "built_walk" = some (.ref a_built_walk)
  a_bezout : Addr
  d_bezout : FuncData
  F_bezout : Fun K "bezout" "bezout" s_bezout a_bezout d_bezout
  b_bezout : Binds K d_bezout P_bezout []
  g_bezout : mg "bezout" = some (.ref a_bezout)
  a_cheapest_frame : Addr
  d_cheapest_frame : FuncData
  F_cheapest_frame : Fun K "cheapest_frame" "cheapest_frame" s_cheapest_frame a_cheapest_frame d_cheapest_frame
  b_cheapest_frame : Binds K d_cheapest_frame P_cheapest_frame []
  g_cheapest_frame : mg "cheapest_frame" = some (.ref a_cheapest_frame)
  a_l_pen : Addr
  d_l_pen : FuncData
  F_l_pen : Fun K "_law_pen" "_law_pen" s_l_pen a_l_pen d_l_pen
  b_l_pen : Binds K d_l_pen P_l_pen []
  g_l_pen : mg "_law_pen" = some (.ref a_l_pen)
  a_l_draw : Addr
  d_l_draw : FuncData
  F_l_draw : Fun K "_law_draw" "_law_draw" s_l_draw a_l_draw d_l_draw
  b_l_draw : Binds K d_l_draw P_l_draw []
  g_l_draw : mg "_law_draw" = some (.ref a_l_draw)
  a_l_pick : Addr
  d_l_pick : FuncData
  F_l_pick : Fun K "_law_pick" "_law_pick" s_l_pick a_l_pick d_l_pick
  b_l_pick : Binds K d_l_pick P_l_pick []
  g_l_pick : mg "_law_pick" = some (.ref a_l_pick)
  a_l_big : Addr
  d_l_big : FuncData
  F_l_big : Fun K "_law_big" "_law_big" s_l_big a_l_big d_l_big
  b_l_big : Binds K d_l_big P_l_big []
  g_l_big : mg "_law_big" = some (.ref a_l_big)
  a_l_whole : Addr
  d_l_whole : FuncData
  F_l_whole : Fun K "_law_whole" "_law_whole" s_l_whole a_l_whole d_l_whole
  b_l_whole : Binds K d_l_whole P_l_whole []
  g_l_whole : mg "_law_whole" = some (.ref a_l_whole)
  a_l_place : Addr
  d_l_place : FuncData
  F_l_place : Fun K "_law_place" "_law_place" s_l_place a_l_place d_l_place
  b_l_place : Binds K d_l_place P_l_place []
  g_l_place : mg "_law_place" = some (.ref a_l_place)
  a_l_step : Addr
  d_l_step : FuncData
  F_l_step : Fun K "_law_step" "_law_step" s_l_step a_l_step d_l_step
  b_l_step : Binds K d_l_step P_l_step []
  g_l_step : mg "_law_step" = some (.ref a_l_step)
  a_l_drawn : Addr
  d_l_drawn : FuncData
  F_l_drawn : Fun K "_law_drawn" "_law_drawn" s_l_drawn a_l_drawn d_l_drawn
  b_l_drawn : Binds K d_l_drawn P_l_drawn []
  g_l_drawn : mg "_law_drawn" = some (.ref a_l_drawn)
  a_l_local_right : Addr
  d_l_local_right : FuncData
  F_l_local_right : Fun K "_law_local_right" "_law_local_right" s_l_local_right a_l_local_right d_l_local_right
  b_l_local_right : Binds K d_l_local_right P_l_local_right []
  g_l_local_right : mg "_law_local_right" = some (.ref a_l_local_right)
  a_l_walks_right : Addr
  d_l_walks_right : FuncData
  F_l_walks_right : Fun K "_law_walks_right" "_law_walks_right" s_l_walks_right a_l_walks_right d_l_walks_right
  b_l_walks_right : Binds K d_l_walks_right P_l_walks_right []
  g_l_walks_right : mg "_law_walks_right" = some (.ref a_l_walks_right)
  a_l_walk_right : Addr
  d_l_walk_right : FuncData
  F_l_walk_right : Fun K "_law_walk_right" "_law_walk_right" s_l_walk_right a_l_walk_right d_l_walk_right
  b_l_walk_right : Binds K d_l_walk_right P_l_walk_right []
  g_l_walk_right : mg "_law_walk_right" = some (.ref a_l_walk_right)
  a_law : Addr
  d_law : FuncData
  F_law : Fun K "law" "law" s_law a_law d_law
  b_law : Binds K d_law P_law []
  g_law : mg "law" = some (.ref a_law)
  C_BadNumber : Addr
  g_C_BadNumber : mg "BadNumber" = some (.ref C_BadNumber)
  a_BadNumber_init : Addr
  d_BadNumber_init : FuncData
  F_BadNumber_init : Fun K "__init__" "BadNumber.__init__" s_BadNumber_init a_BadNumber_init d_BadNumber_init
  b_BadNumber_init : Binds K d_BadNumber_init P_BadNumber_init []
  X_BadNumber : OexC K C_BadNumber
  ei_BadNumber : PySem.W.findIn K (.ref C_BadNumber) "__init__" = some (some (.ref a_BadNumber_init))
  et_BadNumber : PySem.W.typeIn K (.ref a_BadNumber_init) = some (.type "function")
  na_BadNumber_value : PySem.W.findIn K (.ref C_BadNumber) "value" = some none
  C_BadPlace : Addr
  g_C_BadPlace : mg "BadPlace" = some (.ref C_BadPlace)
  a_BadPlace_init : Addr
  d_BadPlace_init : FuncData
  F_BadPlace_init : Fun K "__init__" "BadPlace.__init__" s_BadPlace_init a_BadPlace_init d_BadPlace_init
  b_BadPlace_init : Binds K d_BadPlace_init P_BadPlace_init []
  X_BadPlace : OexC K C_BadPlace
  ei_BadPlace : PySem.W.findIn K (.ref C_BadPlace) "__init__" = some (some (.ref a_BadPlace_init))
  et_BadPlace : PySem.W.typeIn K (.ref a_BadPlace_init) = some (.type "function")
  na_BadPlace_value : PySem.W.findIn K (.ref C_BadPlace) "value" = some none
  C_BadWord : Addr
  g_C_BadWord : mg "BadWord" = some (.ref C_BadWord)
  a_BadWord_init : Addr
  d_BadWord_init : FuncData
  F_BadWord_init : Fun K "__init__" "BadWord.__init__" s_BadWord_init a_BadWord_init d_BadWord_init
  b_BadWord_init : Binds K d_BadWord_init P_BadWord_init []
  X_BadWord : OexC K C_BadWord
  ei_BadWord : PySem.W.findIn K (.ref C_BadWord) "__init__" = some (some (.ref a_BadWord_init))
  et_BadWord : PySem.W.typeIn K (.ref a_BadWord_init) = some (.type "function")
  na_BadWord_value : PySem.W.findIn K (.ref C_BadWord) "value" = some none
  C_Place : Addr
  g_C_Place : mg "Place" = some (.ref C_Place)
  cl_Place : Cls K C_Place
  ca_Place : PySem.W.findIn K (.ref C_Place) "__class__" = some (some (.builtin "object.__class__"))
  cm_Place : PySem.W.mroIn K C_Place (.type "object") = some true
  na_Place_x : NoAttr K C_Place "x"
  na_Place_y : NoAttr K C_Place "y"
  na_Place_area : NoAttr K C_Place "area"
  a_Place_init : Addr
  d_Place_init : FuncData
  F_Place_init : Fun K "__init__" "Place.__init__" s_Place_init a_Place_init d_Place_init
  b_Place_init : Binds K d_Place_init P_Place_init []
  M_Place : Mk K C_Place a_Place_init
  a_Place_eq : Addr
  d_Place_eq : FuncData
  F_Place_eq : Fun K "__eq__" "Place.__eq__" s_Place_eq a_Place_eq d_Place_eq
  b_Place_eq : Binds K d_Place_eq P_Place_eq []
  E_Place : EqC K C_Place a_Place_eq
  a_Place_mul : Addr
  d_Place_mul : FuncData
  F_Place_mul : Fun K "__mul__" "Place.__mul__" s_Place_mul a_Place_mul d_Place_mul
  b_Place_mul : Binds K d_Place_mul P_Place_mul []
  O_Place_Mult : OpC K C_Place a_Place_mul .Mult
  a_Place_invert : Addr
  d_Place_invert : FuncData
  F_Place_invert : Fun K "__invert__" "Place.__invert__" s_Place_invert a_Place_invert d_Place_invert
  b_Place_invert : Binds K d_Place_invert P_Place_invert []
  m_Place_invert : PySem.W.findIn K (.ref C_Place) "__invert__" = some (some (.ref a_Place_invert))
  i_Place_invert : PySem.W.isFn K (.ref a_Place_invert) = true
  C_Ready : Addr
  g_C_Ready : mg "Ready" = some (.ref C_Ready)
  cl_Ready : Cls K C_Ready
  ca_Ready : PySem.W.findIn K (.ref C_Ready) "__class__" = some (some (.builtin "object.__class__"))
  cm_Ready : PySem.W.mroIn K C_Ready (.type "object") = some true
  na_Ready_runs : NoAttr K C_Ready "runs"
  a_Ready_init : Addr
  d_Ready_init : FuncData
  F_Ready_init : Fun K "__init__" "Ready.__init__" s_Ready_init a_Ready_init d_Ready_init
  b_Ready_init : Binds K d_Ready_init P_Ready_init []
  M_Ready : Mk K C_Ready a_Ready_init
  C_Walk : Addr
  g_C_Walk : mg "Walk" = some (.ref C_Walk)
  cl_Walk : Cls K C_Walk
  na_Walk_runs : NoAttr K C_Walk "runs"
  a_Walk_init : Addr
  d_Walk_init : FuncData
  F_Walk_init : Fun K "__init__" "Walk.__init__" s_Walk_init a_Walk_init d_Walk_init
  b_Walk_init : Binds K d_Walk_init P_Walk_init []
  M_Walk : Mk K C_Walk a_Walk_init
  a_Walk_length : Addr
  d_Walk_length : FuncData
  F_Walk_length : Fun K "length" "Walk.length" s_Walk_length a_Walk_length d_Walk_length
  b_Walk_length : Binds K d_Walk_length P_Walk_length []
  p_Walk_length : Addr
  Q_Walk_length : PropOf K C_Walk "length" p_Walk_length a_Walk_length
  a_Walk_place : Addr
  d_Walk_place : FuncData
  F_Walk_place : Fun K "place" "Walk.place" s_Walk_place a_Walk_place d_Walk_place
  b_Walk_place : Binds K d_Walk_place P_Walk_place []
  M_Walk_place : Meth K C_Walk "place" a_Walk_place
  a_Walk_head : Addr
  d_Walk_head : FuncData
  F_Walk_head : Fun K "head" "Walk.head" s_Walk_head a_Walk_head d_Walk_head
  b_Walk_head : Binds K d_Walk_head P_Walk_head []
  M_Walk_head : Meth K C_Walk "head" a_Walk_head
  a_Walk_at : Addr
  d_Walk_at : FuncData
  F_Walk_at : Fun K "at" "Walk.at" s_Walk_at a_Walk_at d_Walk_at
  b_Walk_at : Binds K d_Walk_at P_Walk_at []
  M_Walk_at : Meth K C_Walk "at" a_Walk_at
  a_Walk_is_least : Addr
  d_Walk_is_least : FuncData
  F_Walk_is_least : Fun K "is_least" "Walk.is_least" s_Walk_is_least a_Walk_is_least d_Walk_is_least
  b_Walk_is_least : Binds K d_Walk_is_least P_Walk_is_least []
  M_Walk_is_least : Meth K C_Walk "is_least" a_Walk_is_least
  a_Walk_first_not_least : Addr
  d_Walk_first_not_least : FuncData
  F_Walk_first_not_least : Fun K "first_not_least" "Walk.first_not_least" s_Walk_first_not_least a_Walk_first_not_least d_Walk_first_not_least
  b_Walk_first_not_least : Binds K d_Walk_first_not_least P_Walk_first_not_least []
  M_Walk_first_not_least : Meth K C_Walk "first_not_least" a_Walk_first_not_least
  C_Bargain : Addr
  g_C_Bargain : mg "Bargain" = some (.ref C_Bargain)
  cl_Bargain : Cls K C_Bargain
  na_Bargain_across : NoAttr K C_Bargain "across"
  na_Bargain_up : NoAttr K C_Bargain "up"
  na_Bargain_product : NoAttr K C_Bargain "product"
  na_Bargain_wide : NoAttr K C_Bargain "wide"
  na_Bargain_high : NoAttr K C_Bargain "high"
  na_Bargain_narrowest : NoAttr K C_Bargain "narrowest"
  na_Bargain_widest : NoAttr K C_Bargain "widest"
  a_Bargain_init : Addr
  d_Bargain_init : FuncData
  F_Bargain_init : Fun K "__init__" "Bargain.__init__" s_Bargain_init a_Bargain_init d_Bargain_init
  b_Bargain_init : Binds K d_Bargain_init P_Bargain_init []
  M_Bargain : Mk K C_Bargain a_Bargain_init
  a_Bargain_best : Addr
  d_Bargain_best : FuncData
  F_Bargain_best : Fun K "best" "Bargain.best" s_Bargain_best a_Bargain_best d_Bargain_best
  b_Bargain_best : Binds K d_Bargain_best P_Bargain_best []
  M_Bargain_best : Meth K C_Bargain "best" a_Bargain_best
  a_Bargain_frame_by_widths : Addr
  d_Bargain_frame_by_widths : FuncData
  F_Bargain_frame_by_widths : Fun K "frame_by_widths" "Bargain.frame_by_widths" s_Bargain_frame_by_widths a_Bargain_frame_by_widths d_Bargain_frame_by_widths
  b_Bargain_frame_by_widths : Binds K d_Bargain_frame_by_widths P_Bargain_frame_by_widths []
  M_Bargain_frame_by_widths : Meth K C_Bargain "frame_by_widths" a_Bargain_frame_by_widths
  a_Bargain_may_be_cheaper : Addr
  d_Bargain_may_be_cheaper : FuncData
  F_Bargain_may_be_cheaper : Fun K "may_be_cheaper" "Bargain.may_be_cheaper" s_Bargain_may_be_cheaper a_Bargain_may_be_cheaper d_Bargain_may_be_cheaper
  b_Bargain_may_be_cheaper : Binds K d_Bargain_may_be_cheaper P_Bargain_may_be_cheaper []
  M_Bargain_may_be_cheaper : Meth K C_Bargain "may_be_cheaper" a_Bargain_may_be_cheaper
  a_Bargain_frame_by_costs : Addr
  d_Bargain_frame_by_costs : FuncData
  F_Bargain_frame_by_costs : Fun K "frame_by_costs" "Bargain.frame_by_costs" s_Bargain_frame_by_costs a_Bargain_frame_by_costs d_Bargain_frame_by_costs
  b_Bargain_frame_by_costs : Binds K d_Bargain_frame_by_costs P_Bargain_frame_by_costs []
  M_Bargain_frame_by_costs : Meth K C_Bargain "frame_by_costs" a_Bargain_frame_by_costs
  a_Bargain_least_cost : Addr
  d_Bargain_least_cost : FuncData
  F_Bargain_least_cost : Fun K "least_cost" "Bargain.least_cost" s_Bargain_least_cost a_Bargain_least_cost d_Bargain_least_cost
  b_Bargain_least_cost : Binds K d_Bargain_least_cost P_Bargain_least_cost []
  M_Bargain_least_cost : Meth K C_Bargain "least_cost" a_Bargain_least_cost
  a_Bargain_frame_of_cost : Addr
  d_Bargain_frame_of_cost : FuncData
  F_Bargain_frame_of_cost : Fun K "frame_of_cost" "Bargain.frame_of_cost" s_Bargain_frame_of_cost a_Bargain_frame_of_cost d_Bargain_frame_of_cost
  b_Bargain_frame_of_cost : Binds K d_Bargain_frame_of_cost P_Bargain_frame_of_cost []
  M_Bargain_frame_of_cost : Meth K C_Bargain "frame_of_cost" a_Bargain_frame_of_cost
  C_Prices : Addr
  g_C_Prices : mg "Prices" = some (.ref C_Prices)
  cl_Prices : Cls K C_Prices
  na_Prices_east : NoAttr K C_Prices "east"
  na_Prices_north : NoAttr K C_Prices "north"
  na_Prices_west : NoAttr K C_Prices "west"
  na_Prices_south : NoAttr K C_Prices "south"
  a_Prices_init : Addr
  d_Prices_init : FuncData
  F_Prices_init : Fun K "__init__" "Prices.__init__" s_Prices_init a_Prices_init d_Prices_init
  b_Prices_init : Binds K d_Prices_init P_Prices_init []
  M_Prices : Mk K C_Prices a_Prices_init
  a_Prices_least_price : Addr
  d_Prices_least_price : FuncData
  F_Prices_least_price : Fun K "least_price" "Prices.least_price" s_Prices_least_price a_Prices_least_price d_Prices_least_price
  b_Prices_least_price : Binds K d_Prices_least_price P_Prices_least_price []
  M_Prices_least_price : Meth K C_Prices "least_price" a_Prices_least_price
  a_Prices_frame : Addr
  d_Prices_frame : FuncData
  F_Prices_frame : Fun K "frame" "Prices.frame" s_Prices_frame a_Prices_frame d_Prices_frame
  b_Prices_frame : Binds K d_Prices_frame P_Prices_frame []
  M_Prices_frame : Meth K C_Prices "frame" a_Prices_frame
  cn : PySem.W.specialIn K (.builtin "object.__class__") "__get__" = some (some (.builtin "getset_descriptor.__get__"))
  ct : PySem.W.takesIn K (.builtin "object.__class__") = some true
  io_Place_int : PySem.W.kitOne K (.ref C_Place) (.type "int") = some false
  io_Place_bool : PySem.W.kitOne K (.ref C_Place) (.type "bool") = some false
  is_NoneType_Place : PySem.W.kitOne K (.type "NoneType") (.ref C_Place) = some false
  sb_NoneType_Place : PySem.W.subIn K (.type "NoneType") (.ref C_Place) = some false
  is_bool_Place : PySem.W.kitOne K (.type "bool") (.ref C_Place) = some false
  sb_bool_Place : PySem.W.subIn K (.type "bool") (.ref C_Place) = some false
  is_int_Place : PySem.W.kitOne K (.type "int") (.ref C_Place) = some false
  sb_int_Place : PySem.W.subIn K (.type "int") (.ref C_Place) = some false
  is_str_Place : PySem.W.kitOne K (.type "str") (.ref C_Place) = some false
  sb_str_Place : PySem.W.subIn K (.type "str") (.ref C_Place) = some false
  is_list_Place : PySem.W.kitOne K (.type "list") (.ref C_Place) = some false
  sb_list_Place : PySem.W.subIn K (.type "list") (.ref C_Place) = some false
  is_tuple_Place : PySem.W.kitOne K (.type "tuple") (.ref C_Place) = some false
  sb_tuple_Place : PySem.W.subIn K (.type "tuple") (.ref C_Place) = some false
  is_dict_Place : PySem.W.kitOne K (.type "dict") (.ref C_Place) = some false
  sb_dict_Place : PySem.W.subIn K (.type "dict") (.ref C_Place) = some false
  is_str_Ready : PySem.W.kitOne K (.type "str") (.ref C_Ready) = some false
  is_list_Ready : PySem.W.kitOne K (.type "list") (.ref C_Ready) = some false
  is_tuple_Ready : PySem.W.kitOne K (.type "tuple") (.ref C_Ready) = some false
  n_abs : mg "abs" = none
  n_all : mg "all" = none
  n_bool : mg "bool" = none
  n_divmod : mg "divmod" = none
  n_enumerate : mg "enumerate" = none
  n_int : mg "int" = none
  n_isinstance : mg "isinstance" = none
  n_len : mg "len" = none
  n_list : mg "list" = none
  n_max : mg "max" = none
  n_min : mg "min" = none
  n_range : mg "range" = none
  n_str : mg "str" = none
  n_sum : mg "sum" = none
  n_tuple : mg "tuple" = none
  n_zip : mg "zip" = none
  tk_MOST_RUNS : Tok
  gc_MOST_RUNS : mg "MOST_RUNS" = some (.int 10000 tk_MOST_RUNS)
  tk_MOST_WIDTHS : Tok
  gc_MOST_WIDTHS : mg "MOST_WIDTHS" = some (.int 64 tk_MOST_WIDTHS)
  tk_HIGHEST_PRICE : Tok
  gc_HIGHEST_PRICE : mg "HIGHEST_PRICE" = some (.int 1000 tk_HIGHEST_PRICE)
  tk_LETTERS : Tok
  gc_LETTERS : mg "LETTERS" = some (.str "enws" tk_LETTERS)
  c_DIRECTIONS : Addr
  ns_DIRECTIONS : PySem.W.nsIn K mainGlobals "DIRECTIONS" = some (some (.ref c_DIRECTIONS))
  gc_DIRECTIONS : mg "DIRECTIONS" = some (.ref c_DIRECTIONS)
  mi_gcd : mg "gcd" = some (.builtin "math.gcd")
  mi_isqrt : mg "isqrt" = some (.builtin "math.isqrt")
theorem tx_mk {K : PySem.W.Frag} {h : Heap} {mg : Str → Option Value} {fa : Addr} {f_BadNumber_init : Addr} {od_BadNumber_init an_BadNumber_init : Option Addr} {sl_BadNumber_init : Array (Option Value)} {oc_BadNumber_init kV_BadNumber_init dc_BadNumber_init pm_BadNumber_init cd_BadNumber_init ct_BadNumber_init : Value}
    {f_BadPlace_init : Addr} {od_BadPlace_init an_BadPlace_init : Option Addr} {sl_BadPlace_init : Array (Option Value)} {oc_BadPlace_init kV_BadPlace_init dc_BadPlace_init pm_BadPlace_init cd_BadPlace_init ct_BadPlace_init : Value}
    {f_BadWord_init : Addr} {od_BadWord_init an_BadWord_init : Option Addr} {sl_BadWord_init : Array (Option Value)} {oc_BadWord_init kV_BadWord_init dc_BadWord_init pm_BadWord_init cd_BadWord_init ct_BadWord_init : Value}
    {f_is_integer : Addr} {od_is_integer an_is_integer : Option Addr} {sl_is_integer : Array (Option Value)} {oc_is_integer kV_is_integer dc_is_integer pm_is_integer cd_is_integer ct_is_integer : Value}
    {f_is_whole : Addr} {od_is_whole an_is_whole : Option Addr} {sl_is_whole : Array (Option Value)} {oc_is_whole kV_is_whole dc_is_whole pm_is_whole cd_is_whole ct_is_whole : Value}
    {f_check_integer : Addr} {od_check_integer an_check_integer : Option Addr} {sl_check_integer : Array (Option Value)} {oc_check_integer kV_check_integer dc_check_integer pm_check_integer cd_check_integer ct_check_integer : Value}
    {f_check_from : Addr} {od_check_from an_check_from : Option Addr} {sl_check_from : Array (Option Value)} {oc_check_from kV_check_from dc_check_from pm_check_from cd_check_from ct_check_from : Value}
    {f_check_whole : Addr} {od_check_whole an_check_whole : Option Addr} {sl_check_whole : Array (Option Value)} {oc_check_whole kV_check_whole dc_check_whole pm_check_whole cd_check_whole ct_check_whole : Value}
    {f_fewest_steps : Addr} {od_fewest_steps an_fewest_steps : Option Addr} {sl_fewest_steps : Array (Option Value)} {oc_fewest_steps kV_fewest_steps dc_fewest_steps pm_fewest_steps cd_fewest_steps ct_fewest_steps : Value}
    {f_quotient_up : Addr} {od_quotient_up an_quotient_up : Option Addr} {sl_quotient_up : Array (Option Value)} {oc_quotient_up kV_quotient_up dc_quotient_up pm_quotient_up cd_quotient_up ct_quotient_up : Value}
    {f_half_outline : Addr} {od_half_outline an_half_outline : Option Addr} {sl_half_outline : Array (Option Value)} {oc_half_outline kV_half_outline dc_half_outline pm_half_outline cd_half_outline ct_half_outline : Value}
    {f_best_sides : Addr} {od_best_sides an_best_sides : Option Addr} {sl_best_sides : Array (Option Value)} {oc_best_sides kV_best_sides dc_best_sides pm_best_sides cd_best_sides ct_best_sides : Value}
    {f_spare_steps : Addr} {od_spare_steps an_spare_steps : Option Addr} {sl_spare_steps : Array (Option Value)} {oc_spare_steps kV_spare_steps dc_spare_steps pm_spare_steps cd_spare_steps ct_spare_steps : Value}
    {f_areas_of_walks : Addr} {od_areas_of_walks an_areas_of_walks : Option Addr} {sl_areas_of_walks : Array (Option Value)} {oc_areas_of_walks kV_areas_of_walks dc_areas_of_walks pm_areas_of_walks cd_areas_of_walks ct_areas_of_walks : Value}
    {f_Place_init : Addr} {od_Place_init an_Place_init : Option Addr} {sl_Place_init : Array (Option Value)} {oc_Place_init kV_Place_init dc_Place_init pm_Place_init cd_Place_init ct_Place_init : Value}
    {f_Place_eq : Addr} {od_Place_eq an_Place_eq : Option Addr} {sl_Place_eq : Array (Option Value)} {oc_Place_eq kV_Place_eq dc_Place_eq pm_Place_eq cd_Place_eq ct_Place_eq : Value}
    {f_Place_mul : Addr} {od_Place_mul an_Place_mul : Option Addr} {sl_Place_mul : Array (Option Value)} {oc_Place_mul kV_Place_mul dc_Place_mul pm_Place_mul cd_Place_mul ct_Place_mul : Value}
    {f_Place_invert : Addr} {od_Place_invert an_Place_invert : Option Addr} {sl_Place_invert : Array (Option Value)} {oc_Place_invert kV_Place_invert dc_Place_invert pm_Place_invert cd_Place_invert ct_Place_invert : Value}
    {f_check_place : Addr} {od_check_place an_check_place : Option Addr} {sl_check_place : Array (Option Value)} {oc_check_place kV_check_place dc_check_place pm_check_place cd_check_place ct_check_place : Value}
    {f_home_place : Addr} {od_home_place an_home_place : Option Addr} {sl_home_place : Array (Option Value)} {oc_home_place kV_home_place dc_home_place pm_home_place cd_home_place ct_home_place : Value}
    {f_run_place : Addr} {od_run_place an_run_place : Option Addr} {sl_run_place : Array (Option Value)} {oc_run_place kV_run_place dc_run_place pm_run_place cd_run_place ct_run_place : Value}
    {f_is_run : Addr} {od_is_run an_is_run : Option Addr} {sl_is_run : Array (Option Value)} {oc_is_run kV_is_run dc_is_run pm_is_run cd_is_run ct_is_run : Value}
    {f_joined_runs : Addr} {od_joined_runs an_joined_runs : Option Addr} {sl_joined_runs : Array (Option Value)} {oc_joined_runs kV_joined_runs dc_joined_runs pm_joined_runs cd_joined_runs ct_joined_runs : Value}
    {f_Ready_init : Addr} {od_Ready_init an_Ready_init : Option Addr} {sl_Ready_init : Array (Option Value)} {oc_Ready_init kV_Ready_init dc_Ready_init pm_Ready_init cd_Ready_init ct_Ready_init : Value}
    {f_told_runs : Addr} {od_told_runs an_told_runs : Option Addr} {sl_told_runs : Array (Option Value)} {oc_told_runs kV_told_runs dc_told_runs pm_told_runs cd_told_runs ct_told_runs : Value}
    {f_corners : Addr} {od_corners an_corners : Option Addr} {sl_corners : Array (Option Value)} {oc_corners kV_corners dc_corners pm_corners cd_corners ct_corners : Value}
    {f_Walk_init : Addr} {od_Walk_init an_Walk_init : Option Addr} {sl_Walk_init : Array (Option Value)} {oc_Walk_init kV_Walk_init dc_Walk_init pm_Walk_init cd_Walk_init ct_Walk_init : Value}
    {f_Walk_length : Addr} {od_Walk_length an_Walk_length : Option Addr} {sl_Walk_length : Array (Option Value)} {oc_Walk_length kV_Walk_length dc_Walk_length pm_Walk_length cd_Walk_length ct_Walk_length : Value}
    {f_Walk_place : Addr} {od_Walk_place an_Walk_place : Option Addr} {sl_Walk_place : Array (Option Value)} {oc_Walk_place kV_Walk_place dc_Walk_place pm_Walk_place cd_Walk_place ct_Walk_place : Value}
    {f_Walk_head : Addr} {od_Walk_head an_Walk_head : Option Addr} {sl_Walk_head : Array (Option Value)} {oc_Walk_head kV_Walk_head dc_Walk_head pm_Walk_head cd_Walk_head ct_Walk_head : Value}
    {f_Walk_at : Addr} {od_Walk_at an_Walk_at : Option Addr} {sl_Walk_at : Array (Option Value)} {oc_Walk_at kV_Walk_at dc_Walk_at pm_Walk_at cd_Walk_at ct_Walk_at : Value}
    {f_Walk_is_least : Addr} {od_Walk_is_least an_Walk_is_least : Option Addr} {sl_Walk_is_least : Array (Option Value)} {oc_Walk_is_least kV_Walk_is_least dc_Walk_is_least pm_Walk_is_least cd_Walk_is_least ct_Walk_is_least : Value}
    {f_Walk_first_not_least : Addr} {od_Walk_first_not_least an_Walk_first_not_least : Option Addr} {sl_Walk_first_not_least : Array (Option Value)} {oc_Walk_first_not_least kV_Walk_first_not_least dc_Walk_first_not_least pm_Walk_first_not_least cd_Walk_first_not_least ct_Walk_first_not_least : Value}
    {f_ready_walk : Addr} {od_ready_walk an_ready_walk : Option Addr} {sl_ready_walk : Array (Option Value)} {oc_ready_walk kV_ready_walk dc_ready_walk pm_ready_walk cd_ready_walk ct_ready_walk : Value}
    {f_check_part : Addr} {od_check_part an_check_part : Option Addr} {sl_check_part : Array (Option Value)} {oc_check_part kV_check_part dc_check_part pm_check_part cd_check_part ct_check_part : Value}
    {f_first_too_many : Addr} {od_first_too_many an_first_too_many : Option Addr} {sl_first_too_many : Array (Option Value)} {oc_first_too_many kV_first_too_many dc_first_too_many pm_first_too_many cd_first_too_many ct_first_too_many : Value}
    {f_framed_walk : Addr} {od_framed_walk an_framed_walk : Option Addr} {sl_framed_walk : Array (Option Value)} {oc_framed_walk kV_framed_walk dc_framed_walk pm_framed_walk cd_framed_walk ct_framed_walk : Value}
    {f_climb : Addr} {od_climb an_climb : Option Addr} {sl_climb : Array (Option Value)} {oc_climb kV_climb dc_climb pm_climb cd_climb ct_climb : Value}
    {f_steps : Addr} {od_steps an_steps : Option Addr} {sl_steps : Array (Option Value)} {oc_steps kV_steps dc_steps pm_steps cd_steps ct_steps : Value}
    {f_distance : Addr} {od_distance an_distance : Option Addr} {sl_distance : Array (Option Value)} {oc_distance kV_distance dc_distance pm_distance cd_distance ct_distance : Value}
    {f_least_walk : Addr} {od_least_walk an_least_walk : Option Addr} {sl_least_walk : Array (Option Value)} {oc_least_walk kV_least_walk dc_least_walk pm_least_walk cd_least_walk ct_least_walk : Value}
    {f_walk_of : Addr} {od_walk_of an_walk_of : Option Addr} {sl_walk_of : Array (Option Value)} {oc_walk_of kV_walk_of dc_walk_of pm_walk_of cd_walk_of ct_walk_of : Value}
    {f_areas : Addr} {od_areas an_areas : Option Addr} {sl_areas : Array (Option Value)} {oc_areas kV_areas dc_areas pm_areas cd_areas ct_areas : Value}
    {f_nearer : Addr} {od_nearer an_nearer : Option Addr} {sl_nearer : Array (Option Value)} {oc_nearer kV_nearer dc_nearer pm_nearer cd_nearer ct_nearer : Value}
    {f_first_letters : Addr} {od_first_letters an_first_letters : Option Addr} {sl_first_letters : Array (Option Value)} {oc_first_letters kV_first_letters dc_first_letters pm_first_letters cd_first_letters ct_first_letters : Value}
    {f_is_summit : Addr} {od_is_summit an_is_summit : Option Addr} {sl_is_summit : Array (Option Value)} {oc_is_summit kV_is_summit dc_is_summit pm_is_summit cd_is_summit ct_is_summit : Value}
    {f_lies_between : Addr} {od_lies_between an_lies_between : Option Addr} {sl_lies_between : Array (Option Value)} {oc_lies_between kV_lies_between dc_lies_between pm_lies_between cd_lies_between ct_lies_between : Value}
    {f_built_walk : Addr} {od_built_walk an_built_walk : Option Addr} {sl_built_walk : Array (Option Value)} {oc_built_walk kV_built_walk dc_built_walk pm_built_walk cd_built_walk ct_built_walk : Value}
    {f_bezout : Addr} {od_bezout an_bezout : Option Addr} {sl_bezout : Array (Option Value)} {oc_bezout kV_bezout dc_bezout pm_bezout cd_bezout ct_bezout : Value}
    {f_cheapest_frame : Addr} {od_cheapest_frame an_cheapest_frame : Option Addr} {sl_cheapest_frame : Array (Option Value)} {oc_cheapest_frame kV_cheapest_frame dc_cheapest_frame pm_cheapest_frame cd_cheapest_frame ct_cheapest_frame : Value}
    {f_Bargain_init : Addr} {od_Bargain_init an_Bargain_init : Option Addr} {sl_Bargain_init : Array (Option Value)} {oc_Bargain_init kV_Bargain_init dc_Bargain_init pm_Bargain_init cd_Bargain_init ct_Bargain_init : Value}
    {f_Bargain_best : Addr} {od_Bargain_best an_Bargain_best : Option Addr} {sl_Bargain_best : Array (Option Value)} {oc_Bargain_best kV_Bargain_best dc_Bargain_best pm_Bargain_best cd_Bargain_best ct_Bargain_best : Value}
    {f_Bargain_frame_by_widths : Addr} {od_Bargain_frame_by_widths an_Bargain_frame_by_widths : Option Addr} {sl_Bargain_frame_by_widths : Array (Option Value)} {oc_Bargain_frame_by_widths kV_Bargain_frame_by_widths dc_Bargain_frame_by_widths pm_Bargain_frame_by_widths cd_Bargain_frame_by_widths ct_Bargain_frame_by_widths : Value}
    {f_Bargain_may_be_cheaper : Addr} {od_Bargain_may_be_cheaper an_Bargain_may_be_cheaper : Option Addr} {sl_Bargain_may_be_cheaper : Array (Option Value)} {oc_Bargain_may_be_cheaper kV_Bargain_may_be_cheaper dc_Bargain_may_be_cheaper pm_Bargain_may_be_cheaper cd_Bargain_may_be_cheaper ct_Bargain_may_be_cheaper : Value}
    {f_Bargain_frame_by_costs : Addr} {od_Bargain_frame_by_costs an_Bargain_frame_by_costs : Option Addr} {sl_Bargain_frame_by_costs : Array (Option Value)} {oc_Bargain_frame_by_costs kV_Bargain_frame_by_costs dc_Bargain_frame_by_costs pm_Bargain_frame_by_costs cd_Bargain_frame_by_costs ct_Bargain_frame_by_costs : Value}
    {f_Bargain_least_cost : Addr} {od_Bargain_least_cost an_Bargain_least_cost : Option Addr} {sl_Bargain_least_cost : Array (Option Value)} {oc_Bargain_least_cost kV_Bargain_least_cost dc_Bargain_least_cost pm_Bargain_least_cost cd_Bargain_least_cost ct_Bargain_least_cost : Value}
    {f_Bargain_frame_of_cost : Addr} {od_Bargain_frame_of_cost an_Bargain_frame_of_cost : Option Addr} {sl_Bargain_frame_of_cost : Array (Option Value)} {oc_Bargain_frame_of_cost kV_Bargain_frame_of_cost dc_Bargain_frame_of_cost pm_Bargain_frame_of_cost cd_Bargain_frame_of_cost ct_Bargain_frame_of_cost : Value}
    {f_Prices_init : Addr} {od_Prices_init an_Prices_init : Option Addr} {sl_Prices_init : Array (Option Value)} {oc_Prices_init kV_Prices_init dc_Prices_init pm_Prices_init cd_Prices_init ct_Prices_init : Value}
    {f_Prices_least_price : Addr} {od_Prices_least_price an_Prices_least_price : Option Addr} {sl_Prices_least_price : Array (Option Value)} {oc_Prices_least_price kV_Prices_least_price dc_Prices_least_price pm_Prices_least_price cd_Prices_least_price ct_Prices_least_price : Value}
    {f_Prices_frame : Addr} {od_Prices_frame an_Prices_frame : Option Addr} {sl_Prices_frame : Array (Option Value)} {oc_Prices_frame kV_Prices_frame dc_Prices_frame pm_Prices_frame cd_Prices_frame ct_Prices_frame : Value}
    {f_l_pen : Addr} {od_l_pen an_l_pen : Option Addr} {sl_l_pen : Array (Option Value)} {oc_l_pen kV_l_pen dc_l_pen pm_l_pen cd_l_pen ct_l_pen : Value}
    {f_l_draw : Addr} {od_l_draw an_l_draw : Option Addr} {sl_l_draw : Array (Option Value)} {oc_l_draw kV_l_draw dc_l_draw pm_l_draw cd_l_draw ct_l_draw : Value}
    {f_l_pick : Addr} {od_l_pick an_l_pick : Option Addr} {sl_l_pick : Array (Option Value)} {oc_l_pick kV_l_pick dc_l_pick pm_l_pick cd_l_pick ct_l_pick : Value}
    {f_l_big : Addr} {od_l_big an_l_big : Option Addr} {sl_l_big : Array (Option Value)} {oc_l_big kV_l_big dc_l_big pm_l_big cd_l_big ct_l_big : Value}
    {f_l_whole : Addr} {od_l_whole an_l_whole : Option Addr} {sl_l_whole : Array (Option Value)} {oc_l_whole kV_l_whole dc_l_whole pm_l_whole cd_l_whole ct_l_whole : Value}
    {f_l_place : Addr} {od_l_place an_l_place : Option Addr} {sl_l_place : Array (Option Value)} {oc_l_place kV_l_place dc_l_place pm_l_place cd_l_place ct_l_place : Value}
    {f_l_step : Addr} {od_l_step an_l_step : Option Addr} {sl_l_step : Array (Option Value)} {oc_l_step kV_l_step dc_l_step pm_l_step cd_l_step ct_l_step : Value}
    {f_l_drawn : Addr} {od_l_drawn an_l_drawn : Option Addr} {sl_l_drawn : Array (Option Value)} {oc_l_drawn kV_l_drawn dc_l_drawn pm_l_drawn cd_l_drawn ct_l_drawn : Value}
    {f_l_local_right : Addr} {od_l_local_right an_l_local_right : Option Addr} {sl_l_local_right : Array (Option Value)} {oc_l_local_right kV_l_local_right dc_l_local_right pm_l_local_right cd_l_local_right ct_l_local_right : Value}
    {f_l_walks_right : Addr} {od_l_walks_right an_l_walks_right : Option Addr} {sl_l_walks_right : Array (Option Value)} {oc_l_walks_right kV_l_walks_right dc_l_walks_right pm_l_walks_right cd_l_walks_right ct_l_walks_right : Value}
    {f_l_walk_right : Addr} {od_l_walk_right an_l_walk_right : Option Addr} {sl_l_walk_right : Array (Option Value)} {oc_l_walk_right kV_l_walk_right dc_l_walk_right pm_l_walk_right cd_l_walk_right ct_l_walk_right : Value}
    {f_law : Addr} {od_law an_law : Option Addr} {sl_law : Array (Option Value)} {oc_law kV_law dc_law pm_law cd_law ct_law : Value}
    {C_WalkError : Addr}
    {C_BadNumber : Addr}
    {C_BadPlace : Addr}
    {C_BadWord : Addr}
    {C_Place : Addr}
    {C_Ready : Addr}
    {C_Walk : Addr}
    {C_Bargain : Addr}
    {C_Prices : Addr}
    {nm_BadNumber qn_BadNumber : Str} {NN_BadNumber : Addr} {bs_BadNumber sb_BadNumber : List Value} {sn_BadNumber : List Str} {ab_BadNumber : Bool} {co_BadNumber : Option Bool} {dd_BadNumber : Option Addr} {m0_BadNumber m1_BadNumber m2_BadNumber m3_BadNumber m5_BadNumber : Option Value}
    {nm_BadPlace qn_BadPlace : Str} {NN_BadPlace : Addr} {bs_BadPlace sb_BadPlace : List Value} {sn_BadPlace : List Str} {ab_BadPlace : Bool} {co_BadPlace : Option Bool} {dd_BadPlace : Option Addr} {m0_BadPlace m1_BadPlace m2_BadPlace m3_BadPlace m5_BadPlace : Option Value}
    {nm_BadWord qn_BadWord : Str} {NN_BadWord : Addr} {bs_BadWord sb_BadWord : List Value} {sn_BadWord : List Str} {ab_BadWord : Bool} {co_BadWord : Option Bool} {dd_BadWord : Option Addr} {m0_BadWord m1_BadWord m2_BadWord m3_BadWord m5_BadWord : Option Value}
    {p_Walk_length : Addr} {rs_Walk_length : List Value}
    {tk_MOST_RUNS : Tok}
    {tk_MOST_WIDTHS : Tok}
    {tk_HIGHEST_PRICE : Tok}
    {tk_LETTERS : Tok}
    {k_DIRECTIONS : Addr}
    (X : K.In h) (G : h.Ns mainGlobals mg) (hfa : mg "law" = some (.ref fa))
    (g_is_integer : PySem.W.nsIn K mainGlobals "is_integer" = some (some (.ref f_is_integer)))
    (l_is_integer : K.lookup f_is_integer = some ⟨oc_is_integer, od_is_integer, .func (PySem.W.fnOf "is_integer" "is_integer" (defArgs s_is_integer) (defBody s_is_integer) (defScope s_is_integer) .none kV_is_integer dc_is_integer pm_is_integer an_is_integer cd_is_integer ct_is_integer), sl_is_integer⟩)
    (c_is_integer : PySem.W.codeIn K cd_is_integer "is_integer" = true)
    (k_is_integer : PySem.W.keepIn K (.ref f_is_integer) = true)
    (g_is_whole : PySem.W.nsIn K mainGlobals "is_whole" = some (some (.ref f_is_whole)))
    (l_is_whole : K.lookup f_is_whole = some ⟨oc_is_whole, od_is_whole, .func (PySem.W.fnOf "is_whole" "is_whole" (defArgs s_is_whole) (defBody s_is_whole) (defScope s_is_whole) .none kV_is_whole dc_is_whole pm_is_whole an_is_whole cd_is_whole ct_is_whole), sl_is_whole⟩)
    (c_is_whole : PySem.W.codeIn K cd_is_whole "is_whole" = true)
    (k_is_whole : PySem.W.keepIn K (.ref f_is_whole) = true)
    (g_check_integer : PySem.W.nsIn K mainGlobals "check_integer" = some (some (.ref f_check_integer)))
    (l_check_integer : K.lookup f_check_integer = some ⟨oc_check_integer, od_check_integer, .func (PySem.W.fnOf "check_integer" "check_integer" (defArgs s_check_integer) (defBody s_check_integer) (defScope s_check_integer) .none kV_check_integer dc_check_integer pm_check_integer an_check_integer cd_check_integer ct_check_integer), sl_check_integer⟩)
    (c_check_integer : PySem.W.codeIn K cd_check_integer "check_integer" = true)
    (k_check_integer : PySem.W.keepIn K (.ref f_check_integer) = true)
    (g_check_from : PySem.W.nsIn K mainGlobals "check_from" = some (some (.ref f_check_from)))
    (l_check_from : K.lookup f_check_from = some ⟨oc_check_from, od_check_from, .func (PySem.W.fnOf "check_from" "check_from" (defArgs s_check_from) (defBody s_check_from) (defScope s_check_from) .none kV_check_from dc_check_from pm_check_from an_check_from cd_check_from ct_check_from), sl_check_from⟩)
    (c_check_from : PySem.W.codeIn K cd_check_from "check_from" = true)
    (k_check_from : PySem.W.keepIn K (.ref f_check_from) = true)
    (g_check_whole : PySem.W.nsIn K mainGlobals "check_whole" = some (some (.ref f_check_whole)))
    (l_check_whole : K.lookup f_check_whole = some ⟨oc_check_whole, od_check_whole, .func (PySem.W.fnOf "check_whole" "check_whole" (defArgs s_check_whole) (defBody s_check_whole) (defScope s_check_whole) .none kV_check_whole dc_check_whole pm_check_whole an_check_whole cd_check_whole ct_check_whole), sl_check_whole⟩)
    (c_check_whole : PySem.W.codeIn K cd_check_whole "check_whole" = true)
    (k_check_whole : PySem.W.keepIn K (.ref f_check_whole) = true)
    (g_fewest_steps : PySem.W.nsIn K mainGlobals "fewest_steps" = some (some (.ref f_fewest_steps)))
    (l_fewest_steps : K.lookup f_fewest_steps = some ⟨oc_fewest_steps, od_fewest_steps, .func (PySem.W.fnOf "fewest_steps" "fewest_steps" (defArgs s_fewest_steps) (defBody s_fewest_steps) (defScope s_fewest_steps) .none kV_fewest_steps dc_fewest_steps pm_fewest_steps an_fewest_steps cd_fewest_steps ct_fewest_steps), sl_fewest_steps⟩)
    (c_fewest_steps : PySem.W.codeIn K cd_fewest_steps "fewest_steps" = true)
    (k_fewest_steps : PySem.W.keepIn K (.ref f_fewest_steps) = true)
    (g_quotient_up : PySem.W.nsIn K mainGlobals "quotient_up" = some (some (.ref f_quotient_up)))
    (l_quotient_up : K.lookup f_quotient_up = some ⟨oc_quotient_up, od_quotient_up, .func (PySem.W.fnOf "quotient_up" "quotient_up" (defArgs s_quotient_up) (defBody s_quotient_up) (defScope s_quotient_up) .none kV_quotient_up dc_quotient_up pm_quotient_up an_quotient_up cd_quotient_up ct_quotient_up), sl_quotient_up⟩)
    (c_quotient_up : PySem.W.codeIn K cd_quotient_up "quotient_up" = true)
    (k_quotient_up : PySem.W.keepIn K (.ref f_quotient_up) = true)
    (g_half_outline : PySem.W.nsIn K mainGlobals "half_outline" = some (some (.ref f_half_outline)))
    (l_half_outline : K.lookup f_half_outline = some ⟨oc_half_outline, od_half_outline, .func (PySem.W.fnOf "half_outline" "half_outline" (defArgs s_half_outline) (defBody s_half_outline) (defScope s_half_outline) .none kV_half_outline dc_half_outline pm_half_outline an_half_outline cd_half_outline ct_half_outline), sl_half_outline⟩)
    (c_half_outline : PySem.W.codeIn K cd_half_outline "half_outline" = true)
    (k_half_outline : PySem.W.keepIn K (.ref f_half_outline) = true)
    (g_best_sides : PySem.W.nsIn K mainGlobals "best_sides" = some (some (.ref f_best_sides)))
    (l_best_sides : K.lookup f_best_sides = some ⟨oc_best_sides, od_best_sides, .func (PySem.W.fnOf "best_sides" "best_sides" (defArgs s_best_sides) (defBody s_best_sides) (defScope s_best_sides) .none kV_best_sides dc_best_sides pm_best_sides an_best_sides cd_best_sides ct_best_sides), sl_best_sides⟩)
    (c_best_sides : PySem.W.codeIn K cd_best_sides "best_sides" = true)
    (k_best_sides : PySem.W.keepIn K (.ref f_best_sides) = true)
    (g_spare_steps : PySem.W.nsIn K mainGlobals "spare_steps" = some (some (.ref f_spare_steps)))
    (l_spare_steps : K.lookup f_spare_steps = some ⟨oc_spare_steps, od_spare_steps, .func (PySem.W.fnOf "spare_steps" "spare_steps" (defArgs s_spare_steps) (defBody s_spare_steps) (defScope s_spare_steps) .none kV_spare_steps dc_spare_steps pm_spare_steps an_spare_steps cd_spare_steps ct_spare_steps), sl_spare_steps⟩)
    (c_spare_steps : PySem.W.codeIn K cd_spare_steps "spare_steps" = true)
    (k_spare_steps : PySem.W.keepIn K (.ref f_spare_steps) = true)
    (g_areas_of_walks : PySem.W.nsIn K mainGlobals "areas_of_walks" = some (some (.ref f_areas_of_walks)))
    (l_areas_of_walks : K.lookup f_areas_of_walks = some ⟨oc_areas_of_walks, od_areas_of_walks, .func (PySem.W.fnOf "areas_of_walks" "areas_of_walks" (defArgs s_areas_of_walks) (defBody s_areas_of_walks) (defScope s_areas_of_walks) .none kV_areas_of_walks dc_areas_of_walks pm_areas_of_walks an_areas_of_walks cd_areas_of_walks ct_areas_of_walks), sl_areas_of_walks⟩)
    (c_areas_of_walks : PySem.W.codeIn K cd_areas_of_walks "areas_of_walks" = true)
    (k_areas_of_walks : PySem.W.keepIn K (.ref f_areas_of_walks) = true)
    (g_check_place : PySem.W.nsIn K mainGlobals "check_place" = some (some (.ref f_check_place)))
    (l_check_place : K.lookup f_check_place = some ⟨oc_check_place, od_check_place, .func (PySem.W.fnOf "check_place" "check_place" (defArgs s_check_place) (defBody s_check_place) (defScope s_check_place) .none kV_check_place dc_check_place pm_check_place an_check_place cd_check_place ct_check_place), sl_check_place⟩)
    (c_check_place : PySem.W.codeIn K cd_check_place "check_place" = true)
    (k_check_place : PySem.W.keepIn K (.ref f_check_place) = true)
    (g_home_place : PySem.W.nsIn K mainGlobals "home_place" = some (some (.ref f_home_place)))
    (l_home_place : K.lookup f_home_place = some ⟨oc_home_place, od_home_place, .func (PySem.W.fnOf "home_place" "home_place" (defArgs s_home_place) (defBody s_home_place) (defScope s_home_place) .none kV_home_place dc_home_place pm_home_place an_home_place cd_home_place ct_home_place), sl_home_place⟩)
    (c_home_place : PySem.W.codeIn K cd_home_place "home_place" = true)
    (k_home_place : PySem.W.keepIn K (.ref f_home_place) = true)
    (g_run_place : PySem.W.nsIn K mainGlobals "run_place" = some (some (.ref f_run_place)))
    (l_run_place : K.lookup f_run_place = some ⟨oc_run_place, od_run_place, .func (PySem.W.fnOf "run_place" "run_place" (defArgs s_run_place) (defBody s_run_place) (defScope s_run_place) .none kV_run_place dc_run_place pm_run_place an_run_place cd_run_place ct_run_place), sl_run_place⟩)
    (c_run_place : PySem.W.codeIn K cd_run_place "run_place" = true)
    (k_run_place : PySem.W.keepIn K (.ref f_run_place) = true)
    (g_is_run : PySem.W.nsIn K mainGlobals "is_run" = some (some (.ref f_is_run)))
    (l_is_run : K.lookup f_is_run = some ⟨oc_is_run, od_is_run, .func (PySem.W.fnOf "is_run" "is_run" (defArgs s_is_run) (defBody s_is_run) (defScope s_is_run) .none kV_is_run dc_is_run pm_is_run an_is_run cd_is_run ct_is_run), sl_is_run⟩)
    (c_is_run : PySem.W.codeIn K cd_is_run "is_run" = true)
    (k_is_run : PySem.W.keepIn K (.ref f_is_run) = true)
    (g_joined_runs : PySem.W.nsIn K mainGlobals "joined_runs" = some (some (.ref f_joined_runs)))
    (l_joined_runs : K.lookup f_joined_runs = some ⟨oc_joined_runs, od_joined_runs, .func (PySem.W.fnOf "joined_runs" "joined_runs" (defArgs s_joined_runs) (defBody s_joined_runs) (defScope s_joined_runs) .none kV_joined_runs dc_joined_runs pm_joined_runs an_joined_runs cd_joined_runs ct_joined_runs), sl_joined_runs⟩)
    (c_joined_runs : PySem.W.codeIn K cd_joined_runs "joined_runs" = true)
    (k_joined_runs : PySem.W.keepIn K (.ref f_joined_runs) = true)
    (g_told_runs : PySem.W.nsIn K mainGlobals "told_runs" = some (some (.ref f_told_runs)))
    (l_told_runs : K.lookup f_told_runs = some ⟨oc_told_runs, od_told_runs, .func (PySem.W.fnOf "told_runs" "told_runs" (defArgs s_told_runs) (defBody s_told_runs) (defScope s_told_runs) .none kV_told_runs dc_told_runs pm_told_runs an_told_runs cd_told_runs ct_told_runs), sl_told_runs⟩)
    (c_told_runs : PySem.W.codeIn K cd_told_runs "told_runs" = true)
    (k_told_runs : PySem.W.keepIn K (.ref f_told_runs) = true)
    (g_corners : PySem.W.nsIn K mainGlobals "corners" = some (some (.ref f_corners)))
    (l_corners : K.lookup f_corners = some ⟨oc_corners, od_corners, .func (PySem.W.fnOf "corners" "corners" (defArgs s_corners) (defBody s_corners) (defScope s_corners) .none kV_corners dc_corners pm_corners an_corners cd_corners ct_corners), sl_corners⟩)
    (c_corners : PySem.W.codeIn K cd_corners "corners" = true)
    (k_corners : PySem.W.keepIn K (.ref f_corners) = true)
    (g_ready_walk : PySem.W.nsIn K mainGlobals "ready_walk" = some (some (.ref f_ready_walk)))
    (l_ready_walk : K.lookup f_ready_walk = some ⟨oc_ready_walk, od_ready_walk, .func (PySem.W.fnOf "ready_walk" "ready_walk" (defArgs s_ready_walk) (defBody s_ready_walk) (defScope s_ready_walk) .none kV_ready_walk dc_ready_walk pm_ready_walk an_ready_walk cd_ready_walk ct_ready_walk), sl_ready_walk⟩)
    (c_ready_walk : PySem.W.codeIn K cd_ready_walk "ready_walk" = true)
    (k_ready_walk : PySem.W.keepIn K (.ref f_ready_walk) = true)
    (g_check_part : PySem.W.nsIn K mainGlobals "check_part" = some (some (.ref f_check_part)))
    (l_check_part : K.lookup f_check_part = some ⟨oc_check_part, od_check_part, .func (PySem.W.fnOf "check_part" "check_part" (defArgs s_check_part) (defBody s_check_part) (defScope s_check_part) .none kV_check_part dc_check_part pm_check_part an_check_part cd_check_part ct_check_part), sl_check_part⟩)
    (c_check_part : PySem.W.codeIn K cd_check_part "check_part" = true)
    (k_check_part : PySem.W.keepIn K (.ref f_check_part) = true)
    (g_first_too_many : PySem.W.nsIn K mainGlobals "first_too_many" = some (some (.ref f_first_too_many)))
    (l_first_too_many : K.lookup f_first_too_many = some ⟨oc_first_too_many, od_first_too_many, .func (PySem.W.fnOf "first_too_many" "first_too_many" (defArgs s_first_too_many) (defBody s_first_too_many) (defScope s_first_too_many) .none kV_first_too_many dc_first_too_many pm_first_too_many an_first_too_many cd_first_too_many ct_first_too_many), sl_first_too_many⟩)
    (c_first_too_many : PySem.W.codeIn K cd_first_too_many "first_too_many" = true)
    (k_first_too_many : PySem.W.keepIn K (.ref f_first_too_many) = true)
    (g_framed_walk : PySem.W.nsIn K mainGlobals "framed_walk" = some (some (.ref f_framed_walk)))
    (l_framed_walk : K.lookup f_framed_walk = some ⟨oc_framed_walk, od_framed_walk, .func (PySem.W.fnOf "framed_walk" "framed_walk" (defArgs s_framed_walk) (defBody s_framed_walk) (defScope s_framed_walk) .none kV_framed_walk dc_framed_walk pm_framed_walk an_framed_walk cd_framed_walk ct_framed_walk), sl_framed_walk⟩)
    (c_framed_walk : PySem.W.codeIn K cd_framed_walk "framed_walk" = true)
    (k_framed_walk : PySem.W.keepIn K (.ref f_framed_walk) = true)
    (g_climb : PySem.W.nsIn K mainGlobals "climb" = some (some (.ref f_climb)))
    (l_climb : K.lookup f_climb = some ⟨oc_climb, od_climb, .func (PySem.W.fnOf "climb" "climb" (defArgs s_climb) (defBody s_climb) (defScope s_climb) .none kV_climb dc_climb pm_climb an_climb cd_climb ct_climb), sl_climb⟩)
    (c_climb : PySem.W.codeIn K cd_climb "climb" = true)
    (k_climb : PySem.W.keepIn K (.ref f_climb) = true)
    (g_steps : PySem.W.nsIn K mainGlobals "steps" = some (some (.ref f_steps)))
    (l_steps : K.lookup f_steps = some ⟨oc_steps, od_steps, .func (PySem.W.fnOf "steps" "steps" (defArgs s_steps) (defBody s_steps) (defScope s_steps) .none kV_steps dc_steps pm_steps an_steps cd_steps ct_steps), sl_steps⟩)
    (c_steps : PySem.W.codeIn K cd_steps "steps" = true)
    (k_steps : PySem.W.keepIn K (.ref f_steps) = true)
    (g_distance : PySem.W.nsIn K mainGlobals "distance" = some (some (.ref f_distance)))
    (l_distance : K.lookup f_distance = some ⟨oc_distance, od_distance, .func (PySem.W.fnOf "distance" "distance" (defArgs s_distance) (defBody s_distance) (defScope s_distance) .none kV_distance dc_distance pm_distance an_distance cd_distance ct_distance), sl_distance⟩)
    (c_distance : PySem.W.codeIn K cd_distance "distance" = true)
    (k_distance : PySem.W.keepIn K (.ref f_distance) = true)
    (g_least_walk : PySem.W.nsIn K mainGlobals "least_walk" = some (some (.ref f_least_walk)))
    (l_least_walk : K.lookup f_least_walk = some ⟨oc_least_walk, od_least_walk, .func (PySem.W.fnOf "least_walk" "least_walk" (defArgs s_least_walk) (defBody s_least_walk) (defScope s_least_walk) .none kV_least_walk dc_least_walk pm_least_walk an_least_walk cd_least_walk ct_least_walk), sl_least_walk⟩)
    (c_least_walk : PySem.W.codeIn K cd_least_walk "least_walk" = true)
    (k_least_walk : PySem.W.keepIn K (.ref f_least_walk) = true)
    (g_walk_of : PySem.W.nsIn K mainGlobals "walk_of" = some (some (.ref f_walk_of)))
    (l_walk_of : K.lookup f_walk_of = some ⟨oc_walk_of, od_walk_of, .func (PySem.W.fnOf "walk_of" "walk_of" (defArgs s_walk_of) (defBody s_walk_of) (defScope s_walk_of) .none kV_walk_of dc_walk_of pm_walk_of an_walk_of cd_walk_of ct_walk_of), sl_walk_of⟩)
    (c_walk_of : PySem.W.codeIn K cd_walk_of "walk_of" = true)
    (k_walk_of : PySem.W.keepIn K (.ref f_walk_of) = true)
    (g_areas : PySem.W.nsIn K mainGlobals "areas" = some (some (.ref f_areas)))
    (l_areas : K.lookup f_areas = some ⟨oc_areas, od_areas, .func (PySem.W.fnOf "areas" "areas" (defArgs s_areas) (defBody s_areas) (defScope s_areas) .none kV_areas dc_areas pm_areas an_areas cd_areas ct_areas), sl_areas⟩)
    (c_areas : PySem.W.codeIn K cd_areas "areas" = true)
    (k_areas : PySem.W.keepIn K (.ref f_areas) = true)
    (g_nearer : PySem.W.nsIn K mainGlobals "nearer" = some (some (.ref f_nearer)))
    (l_nearer : K.lookup f_nearer = some ⟨oc_nearer, od_nearer, .func (PySem.W.fnOf "nearer" "nearer" (defArgs s_nearer) (defBody s_nearer) (defScope s_nearer) .none kV_nearer dc_nearer pm_nearer an_nearer cd_nearer ct_nearer), sl_nearer⟩)
    (c_nearer : PySem.W.codeIn K cd_nearer "nearer" = true)
    (k_nearer : PySem.W.keepIn K (.ref f_nearer) = true)
    (g_first_letters : PySem.W.nsIn K mainGlobals "first_letters" = some (some (.ref f_first_letters)))
    (l_first_letters : K.lookup f_first_letters = some ⟨oc_first_letters, od_first_letters, .func (PySem.W.fnOf "first_letters" "first_letters" (defArgs s_first_letters) (defBody s_first_letters) (defScope s_first_letters) .none kV_first_letters dc_first_letters pm_first_letters an_first_letters cd_first_letters ct_first_letters), sl_first_letters⟩)
    (c_first_letters : PySem.W.codeIn K cd_first_letters "first_letters" = true)
    (k_first_letters : PySem.W.keepIn K (.ref f_first_letters) = true)
    (g_is_summit : PySem.W.nsIn K mainGlobals "is_summit" = some (some (.ref f_is_summit)))
    (l_is_summit : K.lookup f_is_summit = some ⟨oc_is_summit, od_is_summit, .func (PySem.W.fnOf "is_summit" "is_summit" (defArgs s_is_summit) (defBody s_is_summit) (defScope s_is_summit) .none kV_is_summit dc_is_summit pm_is_summit an_is_summit cd_is_summit ct_is_summit), sl_is_summit⟩)
    (c_is_summit : PySem.W.codeIn K cd_is_summit "is_summit" = true)
    (k_is_summit : PySem.W.keepIn K (.ref f_is_summit) = true)
    (g_lies_between : PySem.W.nsIn K mainGlobals "lies_between" = some (some (.ref f_lies_between)))
    (l_lies_between : K.lookup f_lies_between = some ⟨oc_lies_between, od_lies_between, .func (PySem.W.fnOf "lies_between" "lies_between" (defArgs s_lies_between) (defBody s_lies_between) (defScope s_lies_between) .none kV_lies_between dc_lies_between pm_lies_between an_lies_between cd_lies_between ct_lies_between), sl_lies_between⟩)
    (c_lies_between : PySem.W.codeIn K cd_lies_between "lies_between" = true)
    (k_lies_between : PySem.W.keepIn K (.ref f_lies_between) = true)
    (g_built_walk : PySem.W.nsIn K mainGlobals "built_walk" = some (some (.ref f_built_walk)))
    (l_built_walk : K.lookup f_built_walk = some ⟨oc_built_walk, od_built_walk, .func (PySem.W.fnOf "built_walk" "built_walk" (defArgs s_built_walk) (defBody s_built_walk) (defScope s_built_walk) .none kV_built_walk dc_built_walk pm_built_walk an_built_walk cd_built_walk ct_built_walk), sl_built_walk⟩)
    (c_built_walk : PySem.W.codeIn K cd_built_walk "built_walk" = true)
    (k_built_walk : PySem.W.keepIn K (.ref f_built_walk) = true)
    (g_bezout : PySem.W.nsIn K mainGlobals "bezout" = some (some (.ref f_bezout)))
    (l_bezout : K.lookup f_bezout = some ⟨oc_bezout, od_bezout, .func (PySem.W.fnOf "bezout" "bezout" (defArgs s_bezout) (defBody s_bezout) (defScope s_bezout) .none kV_bezout dc_bezout pm_bezout an_bezout cd_bezout ct_bezout), sl_bezout⟩)
    (c_bezout : PySem.W.codeIn K cd_bezout "bezout" = true)
    (k_bezout : PySem.W.keepIn K (.ref f_bezout) = true)
    (g_cheapest_frame : PySem.W.nsIn K mainGlobals "cheapest_frame" = some (some (.ref f_cheapest_frame)))
    (l_cheapest_frame : K.lookup f_cheapest_frame = some ⟨oc_cheapest_frame, od_cheapest_frame, .func (PySem.W.fnOf "cheapest_frame" "cheapest_frame" (defArgs s_cheapest_frame) (defBody s_cheapest_frame) (defScope s_cheapest_frame) .none kV_cheapest_frame dc_cheapest_frame pm_cheapest_frame an_cheapest_frame cd_cheapest_frame ct_cheapest_frame), sl_cheapest_frame⟩)
    (c_cheapest_frame : PySem.W.codeIn K cd_cheapest_frame "cheapest_frame" = true)
    (k_cheapest_frame : PySem.W.keepIn K (.ref f_cheapest_frame) = true)
    (g_l_pen : PySem.W.nsIn K mainGlobals "_law_pen" = some (some (.ref f_l_pen)))
    (l_l_pen : K.lookup f_l_pen = some ⟨oc_l_pen, od_l_pen, .func (PySem.W.fnOf "_law_pen" "_law_pen" (defArgs s_l_pen) (defBody s_l_pen) (defScope s_l_pen) .none kV_l_pen dc_l_pen pm_l_pen an_l_pen cd_l_pen ct_l_pen), sl_l_pen⟩)
    (c_l_pen : PySem.W.codeIn K cd_l_pen "_law_pen" = true)
    (k_l_pen : PySem.W.keepIn K (.ref f_l_pen) = true)
    (g_l_draw : PySem.W.nsIn K mainGlobals "_law_draw" = some (some (.ref f_l_draw)))
    (l_l_draw : K.lookup f_l_draw = some ⟨oc_l_draw, od_l_draw, .func (PySem.W.fnOf "_law_draw" "_law_draw" (defArgs s_l_draw) (defBody s_l_draw) (defScope s_l_draw) .none kV_l_draw dc_l_draw pm_l_draw an_l_draw cd_l_draw ct_l_draw), sl_l_draw⟩)
    (c_l_draw : PySem.W.codeIn K cd_l_draw "_law_draw" = true)
    (k_l_draw : PySem.W.keepIn K (.ref f_l_draw) = true)
    (g_l_pick : PySem.W.nsIn K mainGlobals "_law_pick" = some (some (.ref f_l_pick)))
    (l_l_pick : K.lookup f_l_pick = some ⟨oc_l_pick, od_l_pick, .func (PySem.W.fnOf "_law_pick" "_law_pick" (defArgs s_l_pick) (defBody s_l_pick) (defScope s_l_pick) .none kV_l_pick dc_l_pick pm_l_pick an_l_pick cd_l_pick ct_l_pick), sl_l_pick⟩)
    (c_l_pick : PySem.W.codeIn K cd_l_pick "_law_pick" = true)
    (k_l_pick : PySem.W.keepIn K (.ref f_l_pick) = true)
    (g_l_big : PySem.W.nsIn K mainGlobals "_law_big" = some (some (.ref f_l_big)))
    (l_l_big : K.lookup f_l_big = some ⟨oc_l_big, od_l_big, .func (PySem.W.fnOf "_law_big" "_law_big" (defArgs s_l_big) (defBody s_l_big) (defScope s_l_big) .none kV_l_big dc_l_big pm_l_big an_l_big cd_l_big ct_l_big), sl_l_big⟩)
    (c_l_big : PySem.W.codeIn K cd_l_big "_law_big" = true)
    (k_l_big : PySem.W.keepIn K (.ref f_l_big) = true)
    (g_l_whole : PySem.W.nsIn K mainGlobals "_law_whole" = some (some (.ref f_l_whole)))
    (l_l_whole : K.lookup f_l_whole = some ⟨oc_l_whole, od_l_whole, .func (PySem.W.fnOf "_law_whole" "_law_whole" (defArgs s_l_whole) (defBody s_l_whole) (defScope s_l_whole) .none kV_l_whole dc_l_whole pm_l_whole an_l_whole cd_l_whole ct_l_whole), sl_l_whole⟩)
    (c_l_whole : PySem.W.codeIn K cd_l_whole "_law_whole" = true)
    (k_l_whole : PySem.W.keepIn K (.ref f_l_whole) = true)
    (g_l_place : PySem.W.nsIn K mainGlobals "_law_place" = some (some (.ref f_l_place)))
    (l_l_place : K.lookup f_l_place = some ⟨oc_l_place, od_l_place, .func (PySem.W.fnOf "_law_place" "_law_place" (defArgs s_l_place) (defBody s_l_place) (defScope s_l_place) .none kV_l_place dc_l_place pm_l_place an_l_place cd_l_place ct_l_place), sl_l_place⟩)
    (c_l_place : PySem.W.codeIn K cd_l_place "_law_place" = true)
    (k_l_place : PySem.W.keepIn K (.ref f_l_place) = true)
    (g_l_step : PySem.W.nsIn K mainGlobals "_law_step" = some (some (.ref f_l_step)))
    (l_l_step : K.lookup f_l_step = some ⟨oc_l_step, od_l_step, .func (PySem.W.fnOf "_law_step" "_law_step" (defArgs s_l_step) (defBody s_l_step) (defScope s_l_step) .none kV_l_step dc_l_step pm_l_step an_l_step cd_l_step ct_l_step), sl_l_step⟩)
    (c_l_step : PySem.W.codeIn K cd_l_step "_law_step" = true)
    (k_l_step : PySem.W.keepIn K (.ref f_l_step) = true)
    (g_l_drawn : PySem.W.nsIn K mainGlobals "_law_drawn" = some (some (.ref f_l_drawn)))
    (l_l_drawn : K.lookup f_l_drawn = some ⟨oc_l_drawn, od_l_drawn, .func (PySem.W.fnOf "_law_drawn" "_law_drawn" (defArgs s_l_drawn) (defBody s_l_drawn) (defScope s_l_drawn) .none kV_l_drawn dc_l_drawn pm_l_drawn an_l_drawn cd_l_drawn ct_l_drawn), sl_l_drawn⟩)
    (c_l_drawn : PySem.W.codeIn K cd_l_drawn "_law_drawn" = true)
    (k_l_drawn : PySem.W.keepIn K (.ref f_l_drawn) = true)
    (g_l_local_right : PySem.W.nsIn K mainGlobals "_law_local_right" = some (some (.ref f_l_local_right)))
    (l_l_local_right : K.lookup f_l_local_right = some ⟨oc_l_local_right, od_l_local_right, .func (PySem.W.fnOf "_law_local_right" "_law_local_right" (defArgs s_l_local_right) (defBody s_l_local_right) (defScope s_l_local_right) .none kV_l_local_right dc_l_local_right pm_l_local_right an_l_local_right cd_l_local_right ct_l_local_right), sl_l_local_right⟩)
    (c_l_local_right : PySem.W.codeIn K cd_l_local_right "_law_local_right" = true)
    (k_l_local_right : PySem.W.keepIn K (.ref f_l_local_right) = true)
    (g_l_walks_right : PySem.W.nsIn K mainGlobals "_law_walks_right" = some (some (.ref f_l_walks_right)))
    (l_l_walks_right : K.lookup f_l_walks_right = some ⟨oc_l_walks_right, od_l_walks_right, .func (PySem.W.fnOf "_law_walks_right" "_law_walks_right" (defArgs s_l_walks_right) (defBody s_l_walks_right) (defScope s_l_walks_right) .none kV_l_walks_right dc_l_walks_right pm_l_walks_right an_l_walks_right cd_l_walks_right ct_l_walks_right), sl_l_walks_right⟩)
    (c_l_walks_right : PySem.W.codeIn K cd_l_walks_right "_law_walks_right" = true)
    (k_l_walks_right : PySem.W.keepIn K (.ref f_l_walks_right) = true)
    (g_l_walk_right : PySem.W.nsIn K mainGlobals "_law_walk_right" = some (some (.ref f_l_walk_right)))
    (l_l_walk_right : K.lookup f_l_walk_right = some ⟨oc_l_walk_right, od_l_walk_right, .func (PySem.W.fnOf "_law_walk_right" "_law_walk_right" (defArgs s_l_walk_right) (defBody s_l_walk_right) (defScope s_l_walk_right) .none kV_l_walk_right dc_l_walk_right pm_l_walk_right an_l_walk_right cd_l_walk_right ct_l_walk_right), sl_l_walk_right⟩)
    (c_l_walk_right : PySem.W.codeIn K cd_l_walk_right "_law_walk_right" = true)
    (k_l_walk_right : PySem.W.keepIn K (.ref f_l_walk_right) = true)
    (g_law : PySem.W.nsIn K mainGlobals "law" = some (some (.ref f_law)))
    (l_law : K.lookup f_law = some ⟨oc_law, od_law, .func (PySem.W.fnOf "law" "law" (defArgs s_law) (defBody s_law) (defScope s_law) .none kV_law dc_law pm_law an_law cd_law ct_law), sl_law⟩)
    (c_law : PySem.W.codeIn K cd_law "law" = true)
    (k_law : PySem.W.keepIn K (.ref f_law) = true)
    (g_C_BadNumber : PySem.W.nsIn K mainGlobals "BadNumber" = some (some (.ref C_BadNumber)))
    (m_BadNumber_init : PySem.W.findIn K (.ref C_BadNumber) "__init__" = some (some (.ref f_BadNumber_init)))
    (i_BadNumber_init : PySem.W.isFn K (.ref f_BadNumber_init) = true)
    (l_BadNumber_init : K.lookup f_BadNumber_init = some ⟨oc_BadNumber_init, od_BadNumber_init, .func (PySem.W.fnOf "__init__" "BadNumber.__init__" (defArgs s_BadNumber_init) (defBody s_BadNumber_init) (defScope s_BadNumber_init) .none kV_BadNumber_init dc_BadNumber_init pm_BadNumber_init an_BadNumber_init cd_BadNumber_init ct_BadNumber_init), sl_BadNumber_init⟩)
    (c_BadNumber_init : PySem.W.codeIn K cd_BadNumber_init "BadNumber.__init__" = true)
    (k_BadNumber_init : PySem.W.keepIn K (.ref f_BadNumber_init) = true)
    (sa_BadNumber : PySem.W.findIn K (.ref C_BadNumber) "__setattr__" = some (some (.builtin "object.__setattr__")))
    (ex_BadNumber : PySem.W.subIn K (.ref C_BadNumber) (.type "BaseException") = some true)
    (ty_BadNumber : PySem.W.typeIn K (.ref C_BadNumber) = some (.type "type"))
    (kc_BadNumber : PySem.W.keepIn K (.ref C_BadNumber) = true)
    (x_BadNumber : K.lookup C_BadNumber = some (excClassObj nm_BadNumber qn_BadNumber C_BadNumber NN_BadNumber bs_BadNumber [.ref C_WalkError, .type "ValueError", .type "Exception", .type "BaseException", .type "object"] true sn_BadNumber sb_BadNumber ab_BadNumber co_BadNumber dd_BadNumber m0_BadNumber m1_BadNumber m2_BadNumber m3_BadNumber m5_BadNumber "ValueError.__new__"))
    (na_BadNumber_value : PySem.W.findIn K (.ref C_BadNumber) "value" = some none)
    (g_C_BadPlace : PySem.W.nsIn K mainGlobals "BadPlace" = some (some (.ref C_BadPlace)))
    (m_BadPlace_init : PySem.W.findIn K (.ref C_BadPlace) "__init__" = some (some (.ref f_BadPlace_init)))
    (i_BadPlace_init : PySem.W.isFn K (.ref f_BadPlace_init) = true)
    (l_BadPlace_init : K.lookup f_BadPlace_init = some ⟨oc_BadPlace_init, od_BadPlace_init, .func (PySem.W.fnOf "__init__" "BadPlace.__init__" (defArgs s_BadPlace_init) (defBody s_BadPlace_init) (defScope s_BadPlace_init) .none kV_BadPlace_init dc_BadPlace_init pm_BadPlace_init an_BadPlace_init cd_BadPlace_init ct_BadPlace_init), sl_BadPlace_init⟩)
    (c_BadPlace_init : PySem.W.codeIn K cd_BadPlace_init "BadPlace.__init__" = true)
    (k_BadPlace_init : PySem.W.keepIn K (.ref f_BadPlace_init) = true)
    (sa_BadPlace : PySem.W.findIn K (.ref C_BadPlace) "__setattr__" = some (some (.builtin "object.__setattr__")))
    (ex_BadPlace : PySem.W.subIn K (.ref C_BadPlace) (.type "BaseException") = some true)
    (ty_BadPlace : PySem.W.typeIn K (.ref C_BadPlace) = some (.type "type"))
    (kc_BadPlace : PySem.W.keepIn K (.ref C_BadPlace) = true)
    (x_BadPlace : K.lookup C_BadPlace = some (excClassObj nm_BadPlace qn_BadPlace C_BadPlace NN_BadPlace bs_BadPlace [.ref C_WalkError, .type "ValueError", .type "Exception", .type "BaseException", .type "object"] true sn_BadPlace sb_BadPlace ab_BadPlace co_BadPlace dd_BadPlace m0_BadPlace m1_BadPlace m2_BadPlace m3_BadPlace m5_BadPlace "ValueError.__new__"))
    (na_BadPlace_value : PySem.W.findIn K (.ref C_BadPlace) "value" = some none)
    (g_C_BadWord : PySem.W.nsIn K mainGlobals "BadWord" = some (some (.ref C_BadWord)))
    (m_BadWord_init : PySem.W.findIn K (.ref C_BadWord) "__init__" = some (some (.ref f_BadWord_init)))
    (i_BadWord_init : PySem.W.isFn K (.ref f_BadWord_init) = true)
    (l_BadWord_init : K.lookup f_BadWord_init = some ⟨oc_BadWord_init, od_BadWord_init, .func (PySem.W.fnOf "__init__" "BadWord.__init__" (defArgs s_BadWord_init) (defBody s_BadWord_init) (defScope s_BadWord_init) .none kV_BadWord_init dc_BadWord_init pm_BadWord_init an_BadWord_init cd_BadWord_init ct_BadWord_init), sl_BadWord_init⟩)
    (c_BadWord_init : PySem.W.codeIn K cd_BadWord_init "BadWord.__init__" = true)
    (k_BadWord_init : PySem.W.keepIn K (.ref f_BadWord_init) = true)
    (sa_BadWord : PySem.W.findIn K (.ref C_BadWord) "__setattr__" = some (some (.builtin "object.__setattr__")))
    (ex_BadWord : PySem.W.subIn K (.ref C_BadWord) (.type "BaseException") = some true)
    (ty_BadWord : PySem.W.typeIn K (.ref C_BadWord) = some (.type "type"))
    (kc_BadWord : PySem.W.keepIn K (.ref C_BadWord) = true)
    (x_BadWord : K.lookup C_BadWord = some (excClassObj nm_BadWord qn_BadWord C_BadWord NN_BadWord bs_BadWord [.ref C_WalkError, .type "ValueError", .type "Exception", .type "BaseException", .type "object"] true sn_BadWord sb_BadWord ab_BadWord co_BadWord dd_BadWord m0_BadWord m1_BadWord m2_BadWord m3_BadWord m5_BadWord "ValueError.__new__"))
    (na_BadWord_value : PySem.W.findIn K (.ref C_BadWord) "value" = some none)
    (g_C_Place : PySem.W.nsIn K mainGlobals "Place" = some (some (.ref C_Place)))
    (pg_Place : PySem.W.plainGet K C_Place Str.empty = true)
    (hd_Place : PySem.W.hasDictIn K C_Place = true)
    (po_Place : PySem.W.plainOver K C_Place = true)
    (sa_Place : PySem.W.findIn K (.ref C_Place) "__setattr__" = some (some (.builtin "object.__setattr__")))
    (ca_Place : PySem.W.findIn K (.ref C_Place) "__class__" = some (some (.builtin "object.__class__")))
    (cm_Place : PySem.W.mroIn K C_Place (.type "object") = some true)
    (na_Place_x : PySem.W.findIn K (.ref C_Place) "x" = some none)
    (na_Place_y : PySem.W.findIn K (.ref C_Place) "y" = some none)
    (na_Place_area : PySem.W.findIn K (.ref C_Place) "area" = some none)
    (m_Place_init : PySem.W.findIn K (.ref C_Place) "__init__" = some (some (.ref f_Place_init)))
    (i_Place_init : PySem.W.isFn K (.ref f_Place_init) = true)
    (l_Place_init : K.lookup f_Place_init = some ⟨oc_Place_init, od_Place_init, .func (PySem.W.fnOf "__init__" "Place.__init__" (defArgs s_Place_init) (defBody s_Place_init) (defScope s_Place_init) .none kV_Place_init dc_Place_init pm_Place_init an_Place_init cd_Place_init ct_Place_init), sl_Place_init⟩)
    (c_Place_init : PySem.W.codeIn K cd_Place_init "Place.__init__" = true)
    (k_Place_init : PySem.W.keepIn K (.ref f_Place_init) = true)
    (mk_Place : PySem.W.makesIn K C_Place = true)
    (kc_Place : PySem.W.keepIn K (.ref C_Place) = true)
    (m_Place_eq : PySem.W.findIn K (.ref C_Place) "__eq__" = some (some (.ref f_Place_eq)))
    (i_Place_eq : PySem.W.isFn K (.ref f_Place_eq) = true)
    (l_Place_eq : K.lookup f_Place_eq = some ⟨oc_Place_eq, od_Place_eq, .func (PySem.W.fnOf "__eq__" "Place.__eq__" (defArgs s_Place_eq) (defBody s_Place_eq) (defScope s_Place_eq) .none kV_Place_eq dc_Place_eq pm_Place_eq an_Place_eq cd_Place_eq ct_Place_eq), sl_Place_eq⟩)
    (c_Place_eq : PySem.W.codeIn K cd_Place_eq "Place.__eq__" = true)
    (k_Place_eq : PySem.W.keepIn K (.ref f_Place_eq) = true)
    (ne_Place : PySem.W.findIn K (.ref C_Place) "__ne__" = some (some (.builtin "object.__ne__")))
    (m_Place_mul : PySem.W.findIn K (.ref C_Place) "__mul__" = some (some (.ref f_Place_mul)))
    (i_Place_mul : PySem.W.isFn K (.ref f_Place_mul) = true)
    (l_Place_mul : K.lookup f_Place_mul = some ⟨oc_Place_mul, od_Place_mul, .func (PySem.W.fnOf "__mul__" "Place.__mul__" (defArgs s_Place_mul) (defBody s_Place_mul) (defScope s_Place_mul) .none kV_Place_mul dc_Place_mul pm_Place_mul an_Place_mul cd_Place_mul ct_Place_mul), sl_Place_mul⟩)
    (c_Place_mul : PySem.W.codeIn K cd_Place_mul "Place.__mul__" = true)
    (k_Place_mul : PySem.W.keepIn K (.ref f_Place_mul) = true)
    (sf_Place_Mult : PySem.W.selfFirst K C_Place = true)
    (ro_Place_Mult : PySem.W.findIn K (.ref C_Place) (PySem.dunderR (Operator.info .Mult).2) = some none)
    (m_Place_invert : PySem.W.findIn K (.ref C_Place) "__invert__" = some (some (.ref f_Place_invert)))
    (i_Place_invert : PySem.W.isFn K (.ref f_Place_invert) = true)
    (l_Place_invert : K.lookup f_Place_invert = some ⟨oc_Place_invert, od_Place_invert, .func (PySem.W.fnOf "__invert__" "Place.__invert__" (defArgs s_Place_invert) (defBody s_Place_invert) (defScope s_Place_invert) .none kV_Place_invert dc_Place_invert pm_Place_invert an_Place_invert cd_Place_invert ct_Place_invert), sl_Place_invert⟩)
    (c_Place_invert : PySem.W.codeIn K cd_Place_invert "Place.__invert__" = true)
    (k_Place_invert : PySem.W.keepIn K (.ref f_Place_invert) = true)
    (g_C_Ready : PySem.W.nsIn K mainGlobals "Ready" = some (some (.ref C_Ready)))
    (pg_Ready : PySem.W.plainGet K C_Ready Str.empty = true)
    (hd_Ready : PySem.W.hasDictIn K C_Ready = true)
    (po_Ready : PySem.W.plainOver K C_Ready = true)
    (sa_Ready : PySem.W.findIn K (.ref C_Ready) "__setattr__" = some (some (.builtin "object.__setattr__")))
    (ca_Ready : PySem.W.findIn K (.ref C_Ready) "__class__" = some (some (.builtin "object.__class__")))
    (cm_Ready : PySem.W.mroIn K C_Ready (.type "object") = some true)
    (na_Ready_runs : PySem.W.findIn K (.ref C_Ready) "runs" = some none)
    (m_Ready_init : PySem.W.findIn K (.ref C_Ready) "__init__" = some (some (.ref f_Ready_init)))
    (i_Ready_init : PySem.W.isFn K (.ref f_Ready_init) = true)
    (l_Ready_init : K.lookup f_Ready_init = some ⟨oc_Ready_init, od_Ready_init, .func (PySem.W.fnOf "__init__" "Ready.__init__" (defArgs s_Ready_init) (defBody s_Ready_init) (defScope s_Ready_init) .none kV_Ready_init dc_Ready_init pm_Ready_init an_Ready_init cd_Ready_init ct_Ready_init), sl_Ready_init⟩)
    (c_Ready_init : PySem.W.codeIn K cd_Ready_init "Ready.__init__" = true)
    (k_Ready_init : PySem.W.keepIn K (.ref f_Ready_init) = true)
    (mk_Ready : PySem.W.makesIn K C_Ready = true)
    (kc_Ready : PySem.W.keepIn K (.ref C_Ready) = true)
    (g_C_Walk : PySem.W.nsIn K mainGlobals "Walk" = some (some (.ref C_Walk)))
    (pg_Walk : PySem.W.plainGet K C_Walk Str.empty = true)
    (hd_Walk : PySem.W.hasDictIn K C_Walk = true)
    (po_Walk : PySem.W.plainOver K C_Walk = true)
    (sa_Walk : PySem.W.findIn K (.ref C_Walk) "__setattr__" = some (some (.builtin "object.__setattr__")))
    (na_Walk_runs : PySem.W.findIn K (.ref C_Walk) "runs" = some none)
    (m_Walk_init : PySem.W.findIn K (.ref C_Walk) "__init__" = some (some (.ref f_Walk_init)))
    (i_Walk_init : PySem.W.isFn K (.ref f_Walk_init) = true)
    (l_Walk_init : K.lookup f_Walk_init = some ⟨oc_Walk_init, od_Walk_init, .func (PySem.W.fnOf "__init__" "Walk.__init__" (defArgs s_Walk_init) (defBody s_Walk_init) (defScope s_Walk_init) .none kV_Walk_init dc_Walk_init pm_Walk_init an_Walk_init cd_Walk_init ct_Walk_init), sl_Walk_init⟩)
    (c_Walk_init : PySem.W.codeIn K cd_Walk_init "Walk.__init__" = true)
    (k_Walk_init : PySem.W.keepIn K (.ref f_Walk_init) = true)
    (mk_Walk : PySem.W.makesIn K C_Walk = true)
    (kc_Walk : PySem.W.keepIn K (.ref C_Walk) = true)
    (m_Walk_length : PySem.W.findIn K (.ref C_Walk) "length" = some (some (.ref p_Walk_length)))
    (pg_Walk_length : PySem.W.specialIn K (.ref p_Walk_length) "__get__" = some (some (.builtin "property.__get__")))
    (pt_Walk_length : PySem.W.takesIn K (.ref p_Walk_length) = some true)
    (pr_Walk_length : PySem.W.recIn K p_Walk_length "property" = some (.ref f_Walk_length :: rs_Walk_length))
    (l_Walk_length : K.lookup f_Walk_length = some ⟨oc_Walk_length, od_Walk_length, .func (PySem.W.fnOf "length" "Walk.length" (defArgs s_Walk_length) (defBody s_Walk_length) (defScope s_Walk_length) .none kV_Walk_length dc_Walk_length pm_Walk_length an_Walk_length cd_Walk_length ct_Walk_length), sl_Walk_length⟩)
    (c_Walk_length : PySem.W.codeIn K cd_Walk_length "Walk.length" = true)
    (k_Walk_length : PySem.W.keepIn K (.ref f_Walk_length) = true)
    (m_Walk_place : PySem.W.findIn K (.ref C_Walk) "place" = some (some (.ref f_Walk_place)))
    (i_Walk_place : PySem.W.isFn K (.ref f_Walk_place) = true)
    (l_Walk_place : K.lookup f_Walk_place = some ⟨oc_Walk_place, od_Walk_place, .func (PySem.W.fnOf "place" "Walk.place" (defArgs s_Walk_place) (defBody s_Walk_place) (defScope s_Walk_place) .none kV_Walk_place dc_Walk_place pm_Walk_place an_Walk_place cd_Walk_place ct_Walk_place), sl_Walk_place⟩)
    (c_Walk_place : PySem.W.codeIn K cd_Walk_place "Walk.place" = true)
    (k_Walk_place : PySem.W.keepIn K (.ref f_Walk_place) = true)
    (m_Walk_head : PySem.W.findIn K (.ref C_Walk) "head" = some (some (.ref f_Walk_head)))
    (i_Walk_head : PySem.W.isFn K (.ref f_Walk_head) = true)
    (l_Walk_head : K.lookup f_Walk_head = some ⟨oc_Walk_head, od_Walk_head, .func (PySem.W.fnOf "head" "Walk.head" (defArgs s_Walk_head) (defBody s_Walk_head) (defScope s_Walk_head) .none kV_Walk_head dc_Walk_head pm_Walk_head an_Walk_head cd_Walk_head ct_Walk_head), sl_Walk_head⟩)
    (c_Walk_head : PySem.W.codeIn K cd_Walk_head "Walk.head" = true)
    (k_Walk_head : PySem.W.keepIn K (.ref f_Walk_head) = true)
    (m_Walk_at : PySem.W.findIn K (.ref C_Walk) "at" = some (some (.ref f_Walk_at)))
    (i_Walk_at : PySem.W.isFn K (.ref f_Walk_at) = true)
    (l_Walk_at : K.lookup f_Walk_at = some ⟨oc_Walk_at, od_Walk_at, .func (PySem.W.fnOf "at" "Walk.at" (defArgs s_Walk_at) (defBody s_Walk_at) (defScope s_Walk_at) .none kV_Walk_at dc_Walk_at pm_Walk_at an_Walk_at cd_Walk_at ct_Walk_at), sl_Walk_at⟩)
    (c_Walk_at : PySem.W.codeIn K cd_Walk_at "Walk.at" = true)
    (k_Walk_at : PySem.W.keepIn K (.ref f_Walk_at) = true)
    (m_Walk_is_least : PySem.W.findIn K (.ref C_Walk) "is_least" = some (some (.ref f_Walk_is_least)))
    (i_Walk_is_least : PySem.W.isFn K (.ref f_Walk_is_least) = true)
    (l_Walk_is_least : K.lookup f_Walk_is_least = some ⟨oc_Walk_is_least, od_Walk_is_least, .func (PySem.W.fnOf "is_least" "Walk.is_least" (defArgs s_Walk_is_least) (defBody s_Walk_is_least) (defScope s_Walk_is_least) .none kV_Walk_is_least dc_Walk_is_least pm_Walk_is_least an_Walk_is_least cd_Walk_is_least ct_Walk_is_least), sl_Walk_is_least⟩)
    (c_Walk_is_least : PySem.W.codeIn K cd_Walk_is_least "Walk.is_least" = true)
    (k_Walk_is_least : PySem.W.keepIn K (.ref f_Walk_is_least) = true)
    (m_Walk_first_not_least : PySem.W.findIn K (.ref C_Walk) "first_not_least" = some (some (.ref f_Walk_first_not_least)))
    (i_Walk_first_not_least : PySem.W.isFn K (.ref f_Walk_first_not_least) = true)
    (l_Walk_first_not_least : K.lookup f_Walk_first_not_least = some ⟨oc_Walk_first_not_least, od_Walk_first_not_least, .func (PySem.W.fnOf "first_not_least" "Walk.first_not_least" (defArgs s_Walk_first_not_least) (defBody s_Walk_first_not_least) (defScope s_Walk_first_not_least) .none kV_Walk_first_not_least dc_Walk_first_not_least pm_Walk_first_not_least an_Walk_first_not_least cd_Walk_first_not_least ct_Walk_first_not_least), sl_Walk_first_not_least⟩)
    (c_Walk_first_not_least : PySem.W.codeIn K cd_Walk_first_not_least "Walk.first_not_least" = true)
    (k_Walk_first_not_least : PySem.W.keepIn K (.ref f_Walk_first_not_least) = true)
    (g_C_Bargain : PySem.W.nsIn K mainGlobals "Bargain" = some (some (.ref C_Bargain)))
    (pg_Bargain : PySem.W.plainGet K C_Bargain Str.empty = true)
    (hd_Bargain : PySem.W.hasDictIn K C_Bargain = true)
    (po_Bargain : PySem.W.plainOver K C_Bargain = true)
    (sa_Bargain : PySem.W.findIn K (.ref C_Bargain) "__setattr__" = some (some (.builtin "object.__setattr__")))
    (na_Bargain_across : PySem.W.findIn K (.ref C_Bargain) "across" = some none)
    (na_Bargain_up : PySem.W.findIn K (.ref C_Bargain) "up" = some none)
    (na_Bargain_product : PySem.W.findIn K (.ref C_Bargain) "product" = some none)
    (na_Bargain_wide : PySem.W.findIn K (.ref C_Bargain) "wide" = some none)
    (na_Bargain_high : PySem.W.findIn K (.ref C_Bargain) "high" = some none)
    (na_Bargain_narrowest : PySem.W.findIn K (.ref C_Bargain) "narrowest" = some none)
    (na_Bargain_widest : PySem.W.findIn K (.ref C_Bargain) "widest" = some none)
    (m_Bargain_init : PySem.W.findIn K (.ref C_Bargain) "__init__" = some (some (.ref f_Bargain_init)))
    (i_Bargain_init : PySem.W.isFn K (.ref f_Bargain_init) = true)
    (l_Bargain_init : K.lookup f_Bargain_init = some ⟨oc_Bargain_init, od_Bargain_init, .func (PySem.W.fnOf "__init__" "Bargain.__init__" (defArgs s_Bargain_init) (defBody s_Bargain_init) (defScope s_Bargain_init) .none kV_Bargain_init dc_Bargain_init pm_Bargain_init an_Bargain_init cd_Bargain_init ct_Bargain_init), sl_Bargain_init⟩)
    (c_Bargain_init : PySem.W.codeIn K cd_Bargain_init "Bargain.__init__" = true)
    (k_Bargain_init : PySem.W.keepIn K (.ref f_Bargain_init) = true)
    (mk_Bargain : PySem.W.makesIn K C_Bargain = true)
    (kc_Bargain : PySem.W.keepIn K (.ref C_Bargain) = true)
    (m_Bargain_best : PySem.W.findIn K (.ref C_Bargain) "best" = some (some (.ref f_Bargain_best)))
    (i_Bargain_best : PySem.W.isFn K (.ref f_Bargain_best) = true)
    (l_Bargain_best : K.lookup f_Bargain_best = some ⟨oc_Bargain_best, od_Bargain_best, .func (PySem.W.fnOf "best" "Bargain.best" (defArgs s_Bargain_best) (defBody s_Bargain_best) (defScope s_Bargain_best) .none kV_Bargain_best dc_Bargain_best pm_Bargain_best an_Bargain_best cd_Bargain_best ct_Bargain_best), sl_Bargain_best⟩)
    (c_Bargain_best : PySem.W.codeIn K cd_Bargain_best "Bargain.best" = true)
    (k_Bargain_best : PySem.W.keepIn K (.ref f_Bargain_best) = true)
    (m_Bargain_frame_by_widths : PySem.W.findIn K (.ref C_Bargain) "frame_by_widths" = some (some (.ref f_Bargain_frame_by_widths)))
    (i_Bargain_frame_by_widths : PySem.W.isFn K (.ref f_Bargain_frame_by_widths) = true)
    (l_Bargain_frame_by_widths : K.lookup f_Bargain_frame_by_widths = some ⟨oc_Bargain_frame_by_widths, od_Bargain_frame_by_widths, .func (PySem.W.fnOf "frame_by_widths" "Bargain.frame_by_widths" (defArgs s_Bargain_frame_by_widths) (defBody s_Bargain_frame_by_widths) (defScope s_Bargain_frame_by_widths) .none kV_Bargain_frame_by_widths dc_Bargain_frame_by_widths pm_Bargain_frame_by_widths an_Bargain_frame_by_widths cd_Bargain_frame_by_widths ct_Bargain_frame_by_widths), sl_Bargain_frame_by_widths⟩)
    (c_Bargain_frame_by_widths : PySem.W.codeIn K cd_Bargain_frame_by_widths "Bargain.frame_by_widths" = true)
    (k_Bargain_frame_by_widths : PySem.W.keepIn K (.ref f_Bargain_frame_by_widths) = true)
    (m_Bargain_may_be_cheaper : PySem.W.findIn K (.ref C_Bargain) "may_be_cheaper" = some (some (.ref f_Bargain_may_be_cheaper)))
    (i_Bargain_may_be_cheaper : PySem.W.isFn K (.ref f_Bargain_may_be_cheaper) = true)
    (l_Bargain_may_be_cheaper : K.lookup f_Bargain_may_be_cheaper = some ⟨oc_Bargain_may_be_cheaper, od_Bargain_may_be_cheaper, .func (PySem.W.fnOf "may_be_cheaper" "Bargain.may_be_cheaper" (defArgs s_Bargain_may_be_cheaper) (defBody s_Bargain_may_be_cheaper) (defScope s_Bargain_may_be_cheaper) .none kV_Bargain_may_be_cheaper dc_Bargain_may_be_cheaper pm_Bargain_may_be_cheaper an_Bargain_may_be_cheaper cd_Bargain_may_be_cheaper ct_Bargain_may_be_cheaper), sl_Bargain_may_be_cheaper⟩)
    (c_Bargain_may_be_cheaper : PySem.W.codeIn K cd_Bargain_may_be_cheaper "Bargain.may_be_cheaper" = true)
    (k_Bargain_may_be_cheaper : PySem.W.keepIn K (.ref f_Bargain_may_be_cheaper) = true)
    (m_Bargain_frame_by_costs : PySem.W.findIn K (.ref C_Bargain) "frame_by_costs" = some (some (.ref f_Bargain_frame_by_costs)))
    (i_Bargain_frame_by_costs : PySem.W.isFn K (.ref f_Bargain_frame_by_costs) = true)
    (l_Bargain_frame_by_costs : K.lookup f_Bargain_frame_by_costs = some ⟨oc_Bargain_frame_by_costs, od_Bargain_frame_by_costs, .func (PySem.W.fnOf "frame_by_costs" "Bargain.frame_by_costs" (defArgs s_Bargain_frame_by_costs) (defBody s_Bargain_frame_by_costs) (defScope s_Bargain_frame_by_costs) .none kV_Bargain_frame_by_costs dc_Bargain_frame_by_costs pm_Bargain_frame_by_costs an_Bargain_frame_by_costs cd_Bargain_frame_by_costs ct_Bargain_frame_by_costs), sl_Bargain_frame_by_costs⟩)
    (c_Bargain_frame_by_costs : PySem.W.codeIn K cd_Bargain_frame_by_costs "Bargain.frame_by_costs" = true)
    (k_Bargain_frame_by_costs : PySem.W.keepIn K (.ref f_Bargain_frame_by_costs) = true)
    (m_Bargain_least_cost : PySem.W.findIn K (.ref C_Bargain) "least_cost" = some (some (.ref f_Bargain_least_cost)))
    (i_Bargain_least_cost : PySem.W.isFn K (.ref f_Bargain_least_cost) = true)
    (l_Bargain_least_cost : K.lookup f_Bargain_least_cost = some ⟨oc_Bargain_least_cost, od_Bargain_least_cost, .func (PySem.W.fnOf "least_cost" "Bargain.least_cost" (defArgs s_Bargain_least_cost) (defBody s_Bargain_least_cost) (defScope s_Bargain_least_cost) .none kV_Bargain_least_cost dc_Bargain_least_cost pm_Bargain_least_cost an_Bargain_least_cost cd_Bargain_least_cost ct_Bargain_least_cost), sl_Bargain_least_cost⟩)
    (c_Bargain_least_cost : PySem.W.codeIn K cd_Bargain_least_cost "Bargain.least_cost" = true)
    (k_Bargain_least_cost : PySem.W.keepIn K (.ref f_Bargain_least_cost) = true)
    (m_Bargain_frame_of_cost : PySem.W.findIn K (.ref C_Bargain) "frame_of_cost" = some (some (.ref f_Bargain_frame_of_cost)))
    (i_Bargain_frame_of_cost : PySem.W.isFn K (.ref f_Bargain_frame_of_cost) = true)
    (l_Bargain_frame_of_cost : K.lookup f_Bargain_frame_of_cost = some ⟨oc_Bargain_frame_of_cost, od_Bargain_frame_of_cost, .func (PySem.W.fnOf "frame_of_cost" "Bargain.frame_of_cost" (defArgs s_Bargain_frame_of_cost) (defBody s_Bargain_frame_of_cost) (defScope s_Bargain_frame_of_cost) .none kV_Bargain_frame_of_cost dc_Bargain_frame_of_cost pm_Bargain_frame_of_cost an_Bargain_frame_of_cost cd_Bargain_frame_of_cost ct_Bargain_frame_of_cost), sl_Bargain_frame_of_cost⟩)
    (c_Bargain_frame_of_cost : PySem.W.codeIn K cd_Bargain_frame_of_cost "Bargain.frame_of_cost" = true)
    (k_Bargain_frame_of_cost : PySem.W.keepIn K (.ref f_Bargain_frame_of_cost) = true)
    (g_C_Prices : PySem.W.nsIn K mainGlobals "Prices" = some (some (.ref C_Prices)))
    (pg_Prices : PySem.W.plainGet K C_Prices Str.empty = true)
    (hd_Prices : PySem.W.hasDictIn K C_Prices = true)
    (po_Prices : PySem.W.plainOver K C_Prices = true)
    (sa_Prices : PySem.W.findIn K (.ref C_Prices) "__setattr__" = some (some (.builtin "object.__setattr__")))
    (na_Prices_east : PySem.W.findIn K (.ref C_Prices) "east" = some none)
    (na_Prices_north : PySem.W.findIn K (.ref C_Prices) "north" = some none)
    (na_Prices_west : PySem.W.findIn K (.ref C_Prices) "west" = some none)
    (na_Prices_south : PySem.W.findIn K (.ref C_Prices) "south" = some none)
    (m_Prices_init : PySem.W.findIn K (.ref C_Prices) "__init__" = some (some (.ref f_Prices_init)))
    (i_Prices_init : PySem.W.isFn K (.ref f_Prices_init) = true)
    (l_Prices_init : K.lookup f_Prices_init = some ⟨oc_Prices_init, od_Prices_init, .func (PySem.W.fnOf "__init__" "Prices.__init__" (defArgs s_Prices_init) (defBody s_Prices_init) (defScope s_Prices_init) .none kV_Prices_init dc_Prices_init pm_Prices_init an_Prices_init cd_Prices_init ct_Prices_init), sl_Prices_init⟩)
    (c_Prices_init : PySem.W.codeIn K cd_Prices_init "Prices.__init__" = true)
    (k_Prices_init : PySem.W.keepIn K (.ref f_Prices_init) = true)
    (mk_Prices : PySem.W.makesIn K C_Prices = true)
    (kc_Prices : PySem.W.keepIn K (.ref C_Prices) = true)
    (m_Prices_least_price : PySem.W.findIn K (.ref C_Prices) "least_price" = some (some (.ref f_Prices_least_price)))
    (i_Prices_least_price : PySem.W.isFn K (.ref f_Prices_least_price) = true)
    (l_Prices_least_price : K.lookup f_Prices_least_price = some ⟨oc_Prices_least_price, od_Prices_least_price, .func (PySem.W.fnOf "least_price" "Prices.least_price" (defArgs s_Prices_least_price) (defBody s_Prices_least_price) (defScope s_Prices_least_price) .none kV_Prices_least_price dc_Prices_least_price pm_Prices_least_price an_Prices_least_price cd_Prices_least_price ct_Prices_least_price), sl_Prices_least_price⟩)
    (c_Prices_least_price : PySem.W.codeIn K cd_Prices_least_price "Prices.least_price" = true)
    (k_Prices_least_price : PySem.W.keepIn K (.ref f_Prices_least_price) = true)
    (m_Prices_frame : PySem.W.findIn K (.ref C_Prices) "frame" = some (some (.ref f_Prices_frame)))
    (i_Prices_frame : PySem.W.isFn K (.ref f_Prices_frame) = true)
    (l_Prices_frame : K.lookup f_Prices_frame = some ⟨oc_Prices_frame, od_Prices_frame, .func (PySem.W.fnOf "frame" "Prices.frame" (defArgs s_Prices_frame) (defBody s_Prices_frame) (defScope s_Prices_frame) .none kV_Prices_frame dc_Prices_frame pm_Prices_frame an_Prices_frame cd_Prices_frame ct_Prices_frame), sl_Prices_frame⟩)
    (c_Prices_frame : PySem.W.codeIn K cd_Prices_frame "Prices.frame" = true)
    (k_Prices_frame : PySem.W.keepIn K (.ref f_Prices_frame) = true)
    (cn : PySem.W.specialIn K (.builtin "object.__class__") "__get__" = some (some (.builtin "getset_descriptor.__get__")))
    (ct : PySem.W.takesIn K (.builtin "object.__class__") = some true)
    (io_Place_int : PySem.W.kitOne K (.ref C_Place) (.type "int") = some false)
    (io_Place_bool : PySem.W.kitOne K (.ref C_Place) (.type "bool") = some false)
    (is_NoneType_Place : PySem.W.kitOne K (.type "NoneType") (.ref C_Place) = some false)
    (sb_NoneType_Place : PySem.W.subIn K (.type "NoneType") (.ref C_Place) = some false)
    (is_bool_Place : PySem.W.kitOne K (.type "bool") (.ref C_Place) = some false)
    (sb_bool_Place : PySem.W.subIn K (.type "bool") (.ref C_Place) = some false)
    (is_int_Place : PySem.W.kitOne K (.type "int") (.ref C_Place) = some false)
    (sb_int_Place : PySem.W.subIn K (.type "int") (.ref C_Place) = some false)
    (is_str_Place : PySem.W.kitOne K (.type "str") (.ref C_Place) = some false)
    (sb_str_Place : PySem.W.subIn K (.type "str") (.ref C_Place) = some false)
    (is_list_Place : PySem.W.kitOne K (.type "list") (.ref C_Place) = some false)
    (sb_list_Place : PySem.W.subIn K (.type "list") (.ref C_Place) = some false)
    (is_tuple_Place : PySem.W.kitOne K (.type "tuple") (.ref C_Place) = some false)
    (sb_tuple_Place : PySem.W.subIn K (.type "tuple") (.ref C_Place) = some false)
    (is_dict_Place : PySem.W.kitOne K (.type "dict") (.ref C_Place) = some false)
    (sb_dict_Place : PySem.W.subIn K (.type "dict") (.ref C_Place) = some false)
    (is_str_Ready : PySem.W.kitOne K (.type "str") (.ref C_Ready) = some false)
    (is_list_Ready : PySem.W.kitOne K (.type "list") (.ref C_Ready) = some false)
    (is_tuple_Ready : PySem.W.kitOne K (.type "tuple") (.ref C_Ready) = some false)
    (n_abs : PySem.W.nsIn K mainGlobals "abs" = some none)
    (n_all : PySem.W.nsIn K mainGlobals "all" = some none)
    (n_bool : PySem.W.nsIn K mainGlobals "bool" = some none)
    (n_divmod : PySem.W.nsIn K mainGlobals "divmod" = some none)
    (n_enumerate : PySem.W.nsIn K mainGlobals "enumerate" = some none)
    (n_int : PySem.W.nsIn K mainGlobals "int" = some none)
    (n_isinstance : PySem.W.nsIn K mainGlobals "isinstance" = some none)
    (n_len : PySem.W.nsIn K mainGlobals "len" = some none)
    (n_list : PySem.W.nsIn K mainGlobals "list" = some none)
    (n_max : PySem.W.nsIn K mainGlobals "max" = some none)
    (n_min : PySem.W.nsIn K mainGlobals "min" = some none)
    (n_range : PySem.W.nsIn K mainGlobals "range" = some none)
    (n_str : PySem.W.nsIn K mainGlobals "str" = some none)
    (n_sum : PySem.W.nsIn K mainGlobals "sum" = some none)
    (n_tuple : PySem.W.nsIn K mainGlobals "tuple" = some none)
    (n_zip : PySem.W.nsIn K mainGlobals "zip" = some none)
    (gc_MOST_RUNS : PySem.W.nsIn K mainGlobals "MOST_RUNS" = some (some (.int 10000 tk_MOST_RUNS)))
    (gc_MOST_WIDTHS : PySem.W.nsIn K mainGlobals "MOST_WIDTHS" = some (some (.int 64 tk_MOST_WIDTHS)))
    (gc_HIGHEST_PRICE : PySem.W.nsIn K mainGlobals "HIGHEST_PRICE" = some (some (.int 1000 tk_HIGHEST_PRICE)))
    (gc_LETTERS : PySem.W.nsIn K mainGlobals "LETTERS" = some (some (.str "enws" tk_LETTERS)))
    (gc_DIRECTIONS : PySem.W.nsIn K mainGlobals "DIRECTIONS" = some (some (.ref k_DIRECTIONS)))
    (mi_gcd : PySem.W.nsIn K mainGlobals "gcd" = some (some (.builtin "math.gcd")))
    (mi_isqrt : PySem.W.nsIn K mainGlobals "isqrt" = some (some (.builtin "math.isqrt"))) {goal : Prop} (kk : ∀ T : Tx K mg, T.a_law = fa → goal) : goal := by
  refine kk { a_is_integer := (f_is_integer), d_is_integer := (_), F_is_integer := (fun_mk (st := s_is_integer) l_is_integer c_is_integer k_is_integer), b_is_integer := ((fun_mk (st := s_is_integer) l_is_integer c_is_integer k_is_integer).binds (ps := P_is_integer) fun _ _ _ _ _ _ us hl => match us, hl with | [_], _ => rfl), g_is_integer := (PySem.W.mg_of X G g_is_integer), a_is_whole := (f_is_whole), d_is_whole := (_), F_is_whole := (fun_mk (st := s_is_whole) l_is_whole c_is_whole k_is_whole), b_is_whole := ((fun_mk (st := s_is_whole) l_is_whole c_is_whole k_is_whole).binds (ps := P_is_whole) fun _ _ _ _ _ _ us hl => match us, hl with | [_], _ => rfl), g_is_whole := (PySem.W.mg_of X G g_is_whole), a_check_integer := (f_check_integer), d_check_integer := (_), F_check_integer := (fun_mk (st := s_check_integer) l_check_integer c_check_integer k_check_integer), b_check_integer := ((fun_mk (st := s_check_integer) l_check_integer c_check_integer k_check_integer).binds (ps := P_check_integer) fun _ _ _ _ _ _ us hl => match us, hl with | [_], _ => rfl), g_check_integer := (PySem.W.mg_of X G g_check_integer), a_check_from := (f_check_from), d_check_from := (_), F_check_from := (fun_mk (st := s_check_from) l_check_from c_check_from k_check_from), b_check_from := ((fun_mk (st := s_check_from) l_check_from c_check_from k_check_from).binds (ps := P_check_from) fun _ _ _ _ _ _ us hl => match us, hl with | [_, _], _ => rfl), g_check_from := (PySem.W.mg_of X G g_check_from), a_check_whole := (f_check_whole), d_check_whole := (_), F_check_whole := (fun_mk (st := s_check_whole) l_check_whole c_check_whole k_check_whole), b_check_whole := ((fun_mk (st := s_check_whole) l_check_whole c_check_whole k_check_whole).binds (ps := P_check_whole) fun _ _ _ _ _ _ us hl => match us, hl with | [_], _ => rfl), g_check_whole := (PySem.W.mg_of X G g_check_whole), a_fewest_steps := (f_fewest_steps), d_fewest_steps := (_), F_fewest_steps := (fun_mk (st := s_fewest_steps) l_fewest_steps c_fewest_steps k_fewest_steps), b_fewest_steps := ((fun_mk (st := s_fewest_steps) l_fewest_steps c_fewest_steps k_fewest_steps).binds (ps := P_fewest_steps) fun _ _ _ _ _ _ us hl => match us, hl with | [_], _ => rfl), g_fewest_steps := (PySem.W.mg_of X G g_fewest_steps), a_quotient_up := (f_quotient_up), d_quotient_up := (_), F_quotient_up := (fun_mk (st := s_quotient_up) l_quotient_up c_quotient_up k_quotient_up), b_quotient_up := ((fun_mk (st := s_quotient_up) l_quotient_up c_quotient_up k_quotient_up).binds (ps := P_quotient_up) fun _ _ _ _ _ _ us hl => match us, hl with | [_, _], _ => rfl), g_quotient_up := (PySem.W.mg_of X G g_quotient_up), a_half_outline := (f_half_outline), d_half_outline := (_), F_half_outline := (fun_mk (st := s_half_outline) l_half_outline c_half_outline k_half_outline), b_half_outline := ((fun_mk (st := s_half_outline) l_half_outline c_half_outline k_half_outline).binds (ps := P_half_outline) fun _ _ _ _ _ _ us hl => match us, hl with | [_], _ => rfl), g_half_outline := (PySem.W.mg_of X G g_half_outline), a_best_sides := (f_best_sides), d_best_sides := (_), F_best_sides := (fun_mk (st := s_best_sides) l_best_sides c_best_sides k_best_sides), b_best_sides := ((fun_mk (st := s_best_sides) l_best_sides c_best_sides k_best_sides).binds (ps := P_best_sides) fun _ _ _ _ _ _ us hl => match us, hl with | [_, _, _], _ => rfl), g_best_sides := (PySem.W.mg_of X G g_best_sides), a_spare_steps := (f_spare_steps), d_spare_steps := (_), F_spare_steps := (fun_mk (st := s_spare_steps) l_spare_steps c_spare_steps k_spare_steps), b_spare_steps := ((fun_mk (st := s_spare_steps) l_spare_steps c_spare_steps k_spare_steps).binds (ps := P_spare_steps) fun _ _ _ _ _ _ us hl => match us, hl with | [_, _, _], _ => rfl), g_spare_steps := (PySem.W.mg_of X G g_spare_steps), a_areas_of_walks := (f_areas_of_walks), d_areas_of_walks := (_), F_areas_of_walks := (fun_mk (st := s_areas_of_walks) l_areas_of_walks c_areas_of_walks k_areas_of_walks), b_areas_of_walks := ((fun_mk (st := s_areas_of_walks) l_areas_of_walks c_areas_of_walks k_areas_of_walks).binds (ps := P_areas_of_walks) fun _ _ _ _ _ _ us hl => match us, hl with | [_, _, _], _ => rfl), g_areas_of_walks := (PySem.W.mg_of X G g_areas_of_walks), a_check_place := (f_check_place), d_check_place := (_), F_check_place := (fun_mk (st := s_check_place) l_check_place c_check_place k_check_place), b_check_place := ((fun_mk (st := s_check_place) l_check_place c_check_place k_check_place).binds (ps := P_check_place) fun _ _ _ _ _ _ us hl => match us, hl with | [_], _ => rfl), g_check_place := (PySem.W.mg_of X G g_check_place), a_home_place := (f_home_place), d_home_place := (_), F_home_place := (fun_mk (st := s_home_place) l_home_place c_home_place k_home_place), b_home_place := ((fun_mk (st := s_home_place) l_home_place c_home_place k_home_place).binds (ps := P_home_place) fun _ _ _ _ _ _ us hl => match us, hl with | [], _ => rfl), g_home_place := (PySem.W.mg_of X G g_home_place), a_run_place := (f_run_place), d_run_place := (_), F_run_place := (fun_mk (st := s_run_place) l_run_place c_run_place k_run_place), b_run_place := ((fun_mk (st := s_run_place) l_run_place c_run_place k_run_place).binds (ps := P_run_place) fun _ _ _ _ _ _ us hl => match us, hl with | [_, _], _ => rfl), g_run_place := (PySem.W.mg_of X G g_run_place), a_is_run := (f_is_run), d_is_run := (_), F_is_run := (fun_mk (st := s_is_run) l_is_run c_is_run k_is_run), b_is_run := ((fun_mk (st := s_is_run) l_is_run c_is_run k_is_run).binds (ps := P_is_run) fun _ _ _ _ _ _ us hl => match us, hl with | [_], _ => rfl), g_is_run := (PySem.W.mg_of X G g_is_run), a_joined_runs := (f_joined_runs), d_joined_runs := (_), F_joined_runs := (fun_mk (st := s_joined_runs) l_joined_runs c_joined_runs k_joined_runs), b_joined_runs := ((fun_mk (st := s_joined_runs) l_joined_runs c_joined_runs k_joined_runs).binds (ps := P_joined_runs) fun _ _ _ _ _ _ us hl => match us, hl with | [_], _ => rfl), g_joined_runs := (PySem.W.mg_of X G g_joined_runs), a_told_runs := (f_told_runs), d_told_runs := (_), F_told_runs := (fun_mk (st := s_told_runs) l_told_runs c_told_runs k_told_runs), b_told_runs := ((fun_mk (st := s_told_runs) l_told_runs c_told_runs k_told_runs).binds (ps := P_told_runs) fun _ _ _ _ _ _ us hl => match us, hl with | [_], _ => rfl), g_told_runs := (PySem.W.mg_of X G g_told_runs), a_corners := (f_corners), d_corners := (_), F_corners := (fun_mk (st := s_corners) l_corners c_corners k_corners), b_corners := ((fun_mk (st := s_corners) l_corners c_corners k_corners).binds (ps := P_corners) fun _ _ _ _ _ _ us hl => match us, hl with | [_], _ => rfl), g_corners := (PySem.W.mg_of X G g_corners), a_ready_walk := (f_ready_walk), d_ready_walk := (_), F_ready_walk := (fun_mk (st := s_ready_walk) l_ready_walk c_ready_walk k_ready_walk), b_ready_walk := ((fun_mk (st := s_ready_walk) l_ready_walk c_ready_walk k_ready_walk).binds (ps := P_ready_walk) fun _ _ _ _ _ _ us hl => match us, hl with | [_], _ => rfl), g_ready_walk := (PySem.W.mg_of X G g_ready_walk), a_check_part := (f_check_part), d_check_part := (_), F_check_part := (fun_mk (st := s_check_part) l_check_part c_check_part k_check_part), b_check_part := ((fun_mk (st := s_check_part) l_check_part c_check_part k_check_part).binds (ps := P_check_part) fun _ _ _ _ _ _ us hl => match us, hl with | [_, _], _ => rfl), g_check_part := (PySem.W.mg_of X G g_check_part), a_first_too_many := (f_first_too_many), d_first_too_many := (_), F_first_too_many := (fun_mk (st := s_first_too_many) l_first_too_many c_first_too_many k_first_too_many), b_first_too_many := ((fun_mk (st := s_first_too_many) l_first_too_many c_first_too_many k_first_too_many).binds (ps := P_first_too_many) fun _ _ _ _ _ _ us hl => match us, hl with | [_, _, _, _], _ => rfl), g_first_too_many := (PySem.W.mg_of X G g_first_too_many), a_framed_walk := (f_framed_walk), d_framed_walk := (_), F_framed_walk := (fun_mk (st := s_framed_walk) l_framed_walk c_framed_walk k_framed_walk), b_framed_walk := ((fun_mk (st := s_framed_walk) l_framed_walk c_framed_walk k_framed_walk).binds (ps := P_framed_walk) fun _ _ _ _ _ _ us hl => match us, hl with | [_, _, _], _ => rfl), g_framed_walk := (PySem.W.mg_of X G g_framed_walk), a_climb := (f_climb), d_climb := (_), F_climb := (fun_mk (st := s_climb) l_climb c_climb k_climb), b_climb := ((fun_mk (st := s_climb) l_climb c_climb k_climb).binds (ps := P_climb) fun _ _ _ _ _ _ us hl => match us, hl with | [_, _, _, _, _], _ => rfl), g_climb := (PySem.W.mg_of X G g_climb), a_steps := (f_steps), d_steps := (_), F_steps := (fun_mk (st := s_steps) l_steps c_steps k_steps), b_steps := ((fun_mk (st := s_steps) l_steps c_steps k_steps).binds (ps := P_steps) fun _ _ _ _ _ _ us hl => match us, hl with | [_], _ => rfl), g_steps := (PySem.W.mg_of X G g_steps), a_distance := (f_distance), d_distance := (_), F_distance := (fun_mk (st := s_distance) l_distance c_distance k_distance), b_distance := ((fun_mk (st := s_distance) l_distance c_distance k_distance).binds (ps := P_distance) fun _ _ _ _ _ _ us hl => match us, hl with | [_, _], _ => rfl), g_distance := (PySem.W.mg_of X G g_distance), a_least_walk := (f_least_walk), d_least_walk := (_), F_least_walk := (fun_mk (st := s_least_walk) l_least_walk c_least_walk k_least_walk), b_least_walk := ((fun_mk (st := s_least_walk) l_least_walk c_least_walk k_least_walk).binds (ps := P_least_walk) fun _ _ _ _ _ _ us hl => match us, hl with | [_], _ => rfl), g_least_walk := (PySem.W.mg_of X G g_least_walk), a_walk_of := (f_walk_of), d_walk_of := (_), F_walk_of := (fun_mk (st := s_walk_of) l_walk_of c_walk_of k_walk_of), b_walk_of := ((fun_mk (st := s_walk_of) l_walk_of c_walk_of k_walk_of).binds (ps := P_walk_of) fun _ _ _ _ _ _ us hl => match us, hl with | [_, _], _ => rfl), g_walk_of := (PySem.W.mg_of X G g_walk_of), a_areas := (f_areas), d_areas := (_), F_areas := (fun_mk (st := s_areas) l_areas c_areas k_areas), b_areas := ((fun_mk (st := s_areas) l_areas c_areas k_areas).binds (ps := P_areas) fun _ _ _ _ _ _ us hl => match us, hl with | [_, _, _], _ => rfl), g_areas := (PySem.W.mg_of X G g_areas), a_nearer := (f_nearer), d_nearer := (_), F_nearer := (fun_mk (st := s_nearer) l_nearer c_nearer k_nearer), b_nearer := ((fun_mk (st := s_nearer) l_nearer c_nearer k_nearer).binds (ps := P_nearer) fun _ _ _ _ _ _ us hl => match us, hl with | [_], _ => rfl), g_nearer := (PySem.W.mg_of X G g_nearer), a_first_letters := (f_first_letters), d_first_letters := (_), F_first_letters := (fun_mk (st := s_first_letters) l_first_letters c_first_letters k_first_letters), b_first_letters := ((fun_mk (st := s_first_letters) l_first_letters c_first_letters k_first_letters).binds (ps := P_first_letters) fun _ _ _ _ _ _ us hl => match us, hl with | [_], _ => rfl), g_first_letters := (PySem.W.mg_of X G g_first_letters), a_is_summit := (f_is_summit), d_is_summit := (_), F_is_summit := (fun_mk (st := s_is_summit) l_is_summit c_is_summit k_is_summit), b_is_summit := ((fun_mk (st := s_is_summit) l_is_summit c_is_summit k_is_summit).binds (ps := P_is_summit) fun _ _ _ _ _ _ us hl => match us, hl with | [_], _ => rfl), g_is_summit := (PySem.W.mg_of X G g_is_summit), a_lies_between := (f_lies_between), d_lies_between := (_), F_lies_between := (fun_mk (st := s_lies_between) l_lies_between c_lies_between k_lies_between), b_lies_between := ((fun_mk (st := s_lies_between) l_lies_between c_lies_between k_lies_between).binds (ps := P_lies_between) fun _ _ _ _ _ _ us hl => match us, hl with | [_, _, _], _ => rfl), g_lies_between := (PySem.W.mg_of X G g_lies_between), a_built_walk := (f_built_walk), d_built_walk := (_), F_built_walk := (fun_mk (st := s_built_walk) l_built_walk c_built_walk k_built_walk), b_built_walk := ((fun_mk (st := s_built_walk) l_built_walk c_built_walk k_built_walk).binds (ps := P_built_walk) fun _ _ _ _ _ _ us hl => match us, hl with | [_, _], _ => rfl), g_built_walk := (PySem.W.mg_of X G g_built_walk), a_bezout := (f_bezout), d_bezout := (_), F_bezout := (fun_mk (st := s_bezout) l_bezout c_bezout k_bezout), b_bezout := ((fun_mk (st := s_bezout) l_bezout c_bezout k_bezout).binds (ps := P_bezout) fun _ _ _ _ _ _ us hl => match us, hl with | [_, _], _ => rfl), g_bezout := (PySem.W.mg_of X G g_bezout), a_cheapest_frame := (f_cheapest_frame), d_cheapest_frame := (_), F_cheapest_frame := (fun_mk (st := s_cheapest_frame) l_cheapest_frame c_cheapest_frame k_cheapest_frame), b_cheapest_frame := ((fun_mk (st := s_cheapest_frame) l_cheapest_frame c_cheapest_frame k_cheapest_frame).binds (ps := P_cheapest_frame) fun _ _ _ _ _ _ us hl => match us, hl with | [_, _, _, _, _], _ => rfl), g_cheapest_frame := (PySem.W.mg_of X G g_cheapest_frame), a_l_pen := (f_l_pen), d_l_pen := (_), F_l_pen := (fun_mk (st := s_l_pen) l_l_pen c_l_pen k_l_pen), b_l_pen := ((fun_mk (st := s_l_pen) l_l_pen c_l_pen k_l_pen).binds (ps := P_l_pen) fun _ _ _ _ _ _ us hl => match us, hl with | [_], _ => rfl), g_l_pen := (PySem.W.mg_of X G g_l_pen), a_l_draw := (f_l_draw), d_l_draw := (_), F_l_draw := (fun_mk (st := s_l_draw) l_l_draw c_l_draw k_l_draw), b_l_draw := ((fun_mk (st := s_l_draw) l_l_draw c_l_draw k_l_draw).binds (ps := P_l_draw) fun _ _ _ _ _ _ us hl => match us, hl with | [_, _], _ => rfl), g_l_draw := (PySem.W.mg_of X G g_l_draw), a_l_pick := (f_l_pick), d_l_pick := (_), F_l_pick := (fun_mk (st := s_l_pick) l_l_pick c_l_pick k_l_pick), b_l_pick := ((fun_mk (st := s_l_pick) l_l_pick c_l_pick k_l_pick).binds (ps := P_l_pick) fun _ _ _ _ _ _ us hl => match us, hl with | [_, _], _ => rfl), g_l_pick := (PySem.W.mg_of X G g_l_pick), a_l_big := (f_l_big), d_l_big := (_), F_l_big := (fun_mk (st := s_l_big) l_l_big c_l_big k_l_big), b_l_big := ((fun_mk (st := s_l_big) l_l_big c_l_big k_l_big).binds (ps := P_l_big) fun _ _ _ _ _ _ us hl => match us, hl with | [_, _], _ => rfl), g_l_big := (PySem.W.mg_of X G g_l_big), a_l_whole := (f_l_whole), d_l_whole := (_), F_l_whole := (fun_mk (st := s_l_whole) l_l_whole c_l_whole k_l_whole), b_l_whole := ((fun_mk (st := s_l_whole) l_l_whole c_l_whole k_l_whole).binds (ps := P_l_whole) fun _ _ _ _ _ _ us hl => match us, hl with | [_, _], _ => rfl), g_l_whole := (PySem.W.mg_of X G g_l_whole), a_l_place := (f_l_place), d_l_place := (_), F_l_place := (fun_mk (st := s_l_place) l_l_place c_l_place k_l_place), b_l_place := ((fun_mk (st := s_l_place) l_l_place c_l_place k_l_place).binds (ps := P_l_place) fun _ _ _ _ _ _ us hl => match us, hl with | [_, _], _ => rfl), g_l_place := (PySem.W.mg_of X G g_l_place), a_l_step := (f_l_step), d_l_step := (_), F_l_step := (fun_mk (st := s_l_step) l_l_step c_l_step k_l_step), b_l_step := ((fun_mk (st := s_l_step) l_l_step c_l_step k_l_step).binds (ps := P_l_step) fun _ _ _ _ _ _ us hl => match us, hl with | [_], _ => rfl), g_l_step := (PySem.W.mg_of X G g_l_step), a_l_drawn := (f_l_drawn), d_l_drawn := (_), F_l_drawn := (fun_mk (st := s_l_drawn) l_l_drawn c_l_drawn k_l_drawn), b_l_drawn := ((fun_mk (st := s_l_drawn) l_l_drawn c_l_drawn k_l_drawn).binds (ps := P_l_drawn) fun _ _ _ _ _ _ us hl => match us, hl with | [_], _ => rfl), g_l_drawn := (PySem.W.mg_of X G g_l_drawn), a_l_local_right := (f_l_local_right), d_l_local_right := (_), F_l_local_right := (fun_mk (st := s_l_local_right) l_l_local_right c_l_local_right k_l_local_right), b_l_local_right := ((fun_mk (st := s_l_local_right) l_l_local_right c_l_local_right k_l_local_right).binds (ps := P_l_local_right) fun _ _ _ _ _ _ us hl => match us, hl with | [_], _ => rfl), g_l_local_right := (PySem.W.mg_of X G g_l_local_right), a_l_walks_right := (f_l_walks_right), d_l_walks_right := (_), F_l_walks_right := (fun_mk (st := s_l_walks_right) l_l_walks_right c_l_walks_right k_l_walks_right), b_l_walks_right := ((fun_mk (st := s_l_walks_right) l_l_walks_right c_l_walks_right k_l_walks_right).binds (ps := P_l_walks_right) fun _ _ _ _ _ _ us hl => match us, hl with | [_, _], _ => rfl), g_l_walks_right := (PySem.W.mg_of X G g_l_walks_right), a_l_walk_right := (f_l_walk_right), d_l_walk_right := (_), F_l_walk_right := (fun_mk (st := s_l_walk_right) l_l_walk_right c_l_walk_right k_l_walk_right), b_l_walk_right := ((fun_mk (st := s_l_walk_right) l_l_walk_right c_l_walk_right k_l_walk_right).binds (ps := P_l_walk_right) fun _ _ _ _ _ _ us hl => match us, hl with | [_], _ => rfl), g_l_walk_right := (PySem.W.mg_of X G g_l_walk_right), a_law := (f_law), d_law := (_), F_law := (fun_mk (st := s_law) l_law c_law k_law), b_law := ((fun_mk (st := s_law) l_law c_law k_law).binds (ps := P_law) fun _ _ _ _ _ _ us hl => match us, hl with | [_], _ => rfl), g_law := (PySem.W.mg_of X G g_law), C_BadNumber := (C_BadNumber), g_C_BadNumber := (PySem.W.mg_of X G g_C_BadNumber), a_BadNumber_init := (f_BadNumber_init), d_BadNumber_init := (_), F_BadNumber_init := (fun_mk (st := s_BadNumber_init) l_BadNumber_init c_BadNumber_init k_BadNumber_init), b_BadNumber_init := ((fun_mk (st := s_BadNumber_init) l_BadNumber_init c_BadNumber_init k_BadNumber_init).binds (ps := P_BadNumber_init) fun _ _ _ _ _ _ us hl => match us, hl with | [_, _], _ => rfl), X_BadNumber := (⟨⟨nm_BadNumber, qn_BadNumber, NN_BadNumber, bs_BadNumber, _, sn_BadNumber, sb_BadNumber, ab_BadNumber, co_BadNumber, dd_BadNumber, m0_BadNumber, m1_BadNumber, m2_BadNumber, m3_BadNumber, m5_BadNumber, x_BadNumber, rfl⟩, sa_BadNumber, ex_BadNumber, ty_BadNumber, kc_BadNumber⟩), ei_BadNumber := (m_BadNumber_init), et_BadNumber := (beq_iff_eq.mp i_BadNumber_init), na_BadNumber_value := (na_BadNumber_value), C_BadPlace := (C_BadPlace), g_C_BadPlace := (PySem.W.mg_of X G g_C_BadPlace), a_BadPlace_init := (f_BadPlace_init), d_BadPlace_init := (_), F_BadPlace_init := (fun_mk (st := s_BadPlace_init) l_BadPlace_init c_BadPlace_init k_BadPlace_init), b_BadPlace_init := ((fun_mk (st := s_BadPlace_init) l_BadPlace_init c_BadPlace_init k_BadPlace_init).binds (ps := P_BadPlace_init) fun _ _ _ _ _ _ us hl => match us, hl with | [_, _], _ => rfl), X_BadPlace := (⟨⟨nm_BadPlace, qn_BadPlace, NN_BadPlace, bs_BadPlace, _, sn_BadPlace, sb_BadPlace, ab_BadPlace, co_BadPlace, dd_BadPlace, m0_BadPlace, m1_BadPlace, m2_BadPlace, m3_BadPlace, m5_BadPlace, x_BadPlace, rfl⟩, sa_BadPlace, ex_BadPlace, ty_BadPlace, kc_BadPlace⟩), ei_BadPlace := (m_BadPlace_init), et_BadPlace := (beq_iff_eq.mp i_BadPlace_init), na_BadPlace_value := (na_BadPlace_value), C_BadWord := (C_BadWord), g_C_BadWord := (PySem.W.mg_of X G g_C_BadWord), a_BadWord_init := (f_BadWord_init), d_BadWord_init := (_), F_BadWord_init := (fun_mk (st := s_BadWord_init) l_BadWord_init c_BadWord_init k_BadWord_init), b_BadWord_init := ((fun_mk (st := s_BadWord_init) l_BadWord_init c_BadWord_init k_BadWord_init).binds (ps := P_BadWord_init) fun _ _ _ _ _ _ us hl => match us, hl with | [_, _], _ => rfl), X_BadWord := (⟨⟨nm_BadWord, qn_BadWord, NN_BadWord, bs_BadWord, _, sn_BadWord, sb_BadWord, ab_BadWord, co_BadWord, dd_BadWord, m0_BadWord, m1_BadWord, m2_BadWord, m3_BadWord, m5_BadWord, x_BadWord, rfl⟩, sa_BadWord, ex_BadWord, ty_BadWord, kc_BadWord⟩), ei_BadWord := (m_BadWord_init), et_BadWord := (beq_iff_eq.mp i_BadWord_init), na_BadWord_value := (na_BadWord_value), C_Place := (C_Place), g_C_Place := (PySem.W.mg_of X G g_C_Place), cl_Place := (⟨pg_Place, hd_Place, po_Place, sa_Place⟩), ca_Place := (ca_Place), cm_Place := (cm_Place), na_Place_x := (na_Place_x), na_Place_y := (na_Place_y), na_Place_area := (na_Place_area), a_Place_init := (f_Place_init), d_Place_init := (_), F_Place_init := (fun_mk (st := s_Place_init) l_Place_init c_Place_init k_Place_init), b_Place_init := ((fun_mk (st := s_Place_init) l_Place_init c_Place_init k_Place_init).binds (ps := P_Place_init) fun _ _ _ _ _ _ us hl => match us, hl with | [_, _, _, _], _ => rfl), M_Place := (⟨mk_Place, m_Place_init, i_Place_init, kc_Place⟩), a_Place_eq := (f_Place_eq), d_Place_eq := (_), F_Place_eq := (fun_mk (st := s_Place_eq) l_Place_eq c_Place_eq k_Place_eq), b_Place_eq := ((fun_mk (st := s_Place_eq) l_Place_eq c_Place_eq k_Place_eq).binds (ps := P_Place_eq) fun _ _ _ _ _ _ us hl => match us, hl with | [_, _], _ => rfl), E_Place := (⟨m_Place_eq, i_Place_eq, ne_Place, cm_Place⟩), a_Place_mul := (f_Place_mul), d_Place_mul := (_), F_Place_mul := (fun_mk (st := s_Place_mul) l_Place_mul c_Place_mul k_Place_mul), b_Place_mul := ((fun_mk (st := s_Place_mul) l_Place_mul c_Place_mul k_Place_mul).binds (ps := P_Place_mul) fun _ _ _ _ _ _ us hl => match us, hl with | [_, _], _ => rfl), O_Place_Mult := (⟨sf_Place_Mult, m_Place_mul, ro_Place_Mult, i_Place_mul⟩), a_Place_invert := (f_Place_invert), d_Place_invert := (_), F_Place_invert := (fun_mk (st := s_Place_invert) l_Place_invert c_Place_invert k_Place_invert), b_Place_invert := ((fun_mk (st := s_Place_invert) l_Place_invert c_Place_invert k_Place_invert).binds (ps := P_Place_invert) fun _ _ _ _ _ _ us hl => match us, hl with | [_], _ => rfl), m_Place_invert := (m_Place_invert), i_Place_invert := (i_Place_invert), C_Ready := (C_Ready), g_C_Ready := (PySem.W.mg_of X G g_C_Ready), cl_Ready := (⟨pg_Ready, hd_Ready, po_Ready, sa_Ready⟩), ca_Ready := (ca_Ready), cm_Ready := (cm_Ready), na_Ready_runs := (na_Ready_runs), a_Ready_init := (f_Ready_init), d_Ready_init := (_), F_Ready_init := (fun_mk (st := s_Ready_init) l_Ready_init c_Ready_init k_Ready_init), b_Ready_init := ((fun_mk (st := s_Ready_init) l_Ready_init c_Ready_init k_Ready_init).binds (ps := P_Ready_init) fun _ _ _ _ _ _ us hl => match us, hl with | [_, _], _ => rfl), M_Ready := (⟨mk_Ready, m_Ready_init, i_Ready_init, kc_Ready⟩), C_Walk := (C_Walk), g_C_Walk := (PySem.W.mg_of X G g_C_Walk), cl_Walk := (⟨pg_Walk, hd_Walk, po_Walk, sa_Walk⟩), na_Walk_runs := (na_Walk_runs), a_Walk_init := (f_Walk_init), d_Walk_init := (_), F_Walk_init := (fun_mk (st := s_Walk_init) l_Walk_init c_Walk_init k_Walk_init), b_Walk_init := ((fun_mk (st := s_Walk_init) l_Walk_init c_Walk_init k_Walk_init).binds (ps := P_Walk_init) fun _ _ _ _ _ _ us hl => match us, hl with | [_, _], _ => rfl), M_Walk := (⟨mk_Walk, m_Walk_init, i_Walk_init, kc_Walk⟩), a_Walk_length := (f_Walk_length), d_Walk_length := (_), F_Walk_length := (fun_mk (st := s_Walk_length) l_Walk_length c_Walk_length k_Walk_length), b_Walk_length := ((fun_mk (st := s_Walk_length) l_Walk_length c_Walk_length k_Walk_length).binds (ps := P_Walk_length) fun _ _ _ _ _ _ us hl => match us, hl with | [_], _ => rfl), p_Walk_length := (p_Walk_length), Q_Walk_length := (⟨m_Walk_length, pg_Walk_length, pt_Walk_length, ⟨_, pr_Walk_length⟩⟩), a_Walk_place := (f_Walk_place), d_Walk_place := (_), F_Walk_place := (fun_mk (st := s_Walk_place) l_Walk_place c_Walk_place k_Walk_place), b_Walk_place := ((fun_mk (st := s_Walk_place) l_Walk_place c_Walk_place k_Walk_place).binds (ps := P_Walk_place) fun _ _ _ _ _ _ us hl => match us, hl with | [_], _ => rfl), M_Walk_place := (⟨m_Walk_place, i_Walk_place, k_Walk_place⟩), a_Walk_head := (f_Walk_head), d_Walk_head := (_), F_Walk_head := (fun_mk (st := s_Walk_head) l_Walk_head c_Walk_head k_Walk_head), b_Walk_head := ((fun_mk (st := s_Walk_head) l_Walk_head c_Walk_head k_Walk_head).binds (ps := P_Walk_head) fun _ _ _ _ _ _ us hl => match us, hl with | [_, _], _ => rfl), M_Walk_head := (⟨m_Walk_head, i_Walk_head, k_Walk_head⟩), a_Walk_at := (f_Walk_at), d_Walk_at := (_), F_Walk_at := (fun_mk (st := s_Walk_at) l_Walk_at c_Walk_at k_Walk_at), b_Walk_at := ((fun_mk (st := s_Walk_at) l_Walk_at c_Walk_at k_Walk_at).binds (ps := P_Walk_at) fun _ _ _ _ _ _ us hl => match us, hl with | [_, _], _ => rfl), M_Walk_at := (⟨m_Walk_at, i_Walk_at, k_Walk_at⟩), a_Walk_is_least := (f_Walk_is_least), d_Walk_is_least := (_), F_Walk_is_least := (fun_mk (st := s_Walk_is_least) l_Walk_is_least c_Walk_is_least k_Walk_is_least), b_Walk_is_least := ((fun_mk (st := s_Walk_is_least) l_Walk_is_least c_Walk_is_least k_Walk_is_least).binds (ps := P_Walk_is_least) fun _ _ _ _ _ _ us hl => match us, hl with | [_], _ => rfl), M_Walk_is_least := (⟨m_Walk_is_least, i_Walk_is_least, k_Walk_is_least⟩), a_Walk_first_not_least := (f_Walk_first_not_least), d_Walk_first_not_least := (_), F_Walk_first_not_least := (fun_mk (st := s_Walk_first_not_least) l_Walk_first_not_least c_Walk_first_not_least k_Walk_first_not_least), b_Walk_first_not_least := ((fun_mk (st := s_Walk_first_not_least) l_Walk_first_not_least c_Walk_first_not_least k_Walk_first_not_least).binds (ps := P_Walk_first_not_least) fun _ _ _ _ _ _ us hl => match us, hl with | [_], _ => rfl), M_Walk_first_not_least := (⟨m_Walk_first_not_least, i_Walk_first_not_least, k_Walk_first_not_least⟩), C_Bargain := (C_Bargain), g_C_Bargain := (PySem.W.mg_of X G g_C_Bargain), cl_Bargain := (⟨pg_Bargain, hd_Bargain, po_Bargain, sa_Bargain⟩), na_Bargain_across := (na_Bargain_across), na_Bargain_up := (na_Bargain_up), na_Bargain_product := (na_Bargain_product), na_Bargain_wide := (na_Bargain_wide), na_Bargain_high := (na_Bargain_high), na_Bargain_narrowest := (na_Bargain_narrowest), na_Bargain_widest := (na_Bargain_widest), a_Bargain_init := (f_Bargain_init), d_Bargain_init := (_), F_Bargain_init := (fun_mk (st := s_Bargain_init) l_Bargain_init c_Bargain_init k_Bargain_init), b_Bargain_init := ((fun_mk (st := s_Bargain_init) l_Bargain_init c_Bargain_init k_Bargain_init).binds (ps := P_Bargain_init) fun _ _ _ _ _ _ us hl => match us, hl with | [_, _, _, _, _, _], _ => rfl), M_Bargain := (⟨mk_Bargain, m_Bargain_init, i_Bargain_init, kc_Bargain⟩), a_Bargain_best := (f_Bargain_best), d_Bargain_best := (_), F_Bargain_best := (fun_mk (st := s_Bargain_best) l_Bargain_best c_Bargain_best k_Bargain_best), b_Bargain_best := ((fun_mk (st := s_Bargain_best) l_Bargain_best c_Bargain_best k_Bargain_best).binds (ps := P_Bargain_best) fun _ _ _ _ _ _ us hl => match us, hl with | [_], _ => rfl), M_Bargain_best := (⟨m_Bargain_best, i_Bargain_best, k_Bargain_best⟩), a_Bargain_frame_by_widths := (f_Bargain_frame_by_widths), d_Bargain_frame_by_widths := (_), F_Bargain_frame_by_widths := (fun_mk (st := s_Bargain_frame_by_widths) l_Bargain_frame_by_widths c_Bargain_frame_by_widths k_Bargain_frame_by_widths), b_Bargain_frame_by_widths := ((fun_mk (st := s_Bargain_frame_by_widths) l_Bargain_frame_by_widths c_Bargain_frame_by_widths k_Bargain_frame_by_widths).binds (ps := P_Bargain_frame_by_widths) fun _ _ _ _ _ _ us hl => match us, hl with | [_, _], _ => rfl), M_Bargain_frame_by_widths := (⟨m_Bargain_frame_by_widths, i_Bargain_frame_by_widths, k_Bargain_frame_by_widths⟩), a_Bargain_may_be_cheaper := (f_Bargain_may_be_cheaper), d_Bargain_may_be_cheaper := (_), F_Bargain_may_be_cheaper := (fun_mk (st := s_Bargain_may_be_cheaper) l_Bargain_may_be_cheaper c_Bargain_may_be_cheaper k_Bargain_may_be_cheaper), b_Bargain_may_be_cheaper := ((fun_mk (st := s_Bargain_may_be_cheaper) l_Bargain_may_be_cheaper c_Bargain_may_be_cheaper k_Bargain_may_be_cheaper).binds (ps := P_Bargain_may_be_cheaper) fun _ _ _ _ _ _ us hl => match us, hl with | [_, _, _], _ => rfl), M_Bargain_may_be_cheaper := (⟨m_Bargain_may_be_cheaper, i_Bargain_may_be_cheaper, k_Bargain_may_be_cheaper⟩), a_Bargain_frame_by_costs := (f_Bargain_frame_by_costs), d_Bargain_frame_by_costs := (_), F_Bargain_frame_by_costs := (fun_mk (st := s_Bargain_frame_by_costs) l_Bargain_frame_by_costs c_Bargain_frame_by_costs k_Bargain_frame_by_costs), b_Bargain_frame_by_costs := ((fun_mk (st := s_Bargain_frame_by_costs) l_Bargain_frame_by_costs c_Bargain_frame_by_costs k_Bargain_frame_by_costs).binds (ps := P_Bargain_frame_by_costs) fun _ _ _ _ _ _ us hl => match us, hl with | [_], _ => rfl), M_Bargain_frame_by_costs := (⟨m_Bargain_frame_by_costs, i_Bargain_frame_by_costs, k_Bargain_frame_by_costs⟩), a_Bargain_least_cost := (f_Bargain_least_cost), d_Bargain_least_cost := (_), F_Bargain_least_cost := (fun_mk (st := s_Bargain_least_cost) l_Bargain_least_cost c_Bargain_least_cost k_Bargain_least_cost), b_Bargain_least_cost := ((fun_mk (st := s_Bargain_least_cost) l_Bargain_least_cost c_Bargain_least_cost k_Bargain_least_cost).binds (ps := P_Bargain_least_cost) fun _ _ _ _ _ _ us hl => match us, hl with | [_], _ => rfl), M_Bargain_least_cost := (⟨m_Bargain_least_cost, i_Bargain_least_cost, k_Bargain_least_cost⟩), a_Bargain_frame_of_cost := (f_Bargain_frame_of_cost), d_Bargain_frame_of_cost := (_), F_Bargain_frame_of_cost := (fun_mk (st := s_Bargain_frame_of_cost) l_Bargain_frame_of_cost c_Bargain_frame_of_cost k_Bargain_frame_of_cost), b_Bargain_frame_of_cost := ((fun_mk (st := s_Bargain_frame_of_cost) l_Bargain_frame_of_cost c_Bargain_frame_of_cost k_Bargain_frame_of_cost).binds (ps := P_Bargain_frame_of_cost) fun _ _ _ _ _ _ us hl => match us, hl with | [_, _, _], _ => rfl), M_Bargain_frame_of_cost := (⟨m_Bargain_frame_of_cost, i_Bargain_frame_of_cost, k_Bargain_frame_of_cost⟩), C_Prices := (C_Prices), g_C_Prices := (PySem.W.mg_of X G g_C_Prices), cl_Prices := (⟨pg_Prices, hd_Prices, po_Prices, sa_Prices⟩), na_Prices_east := (na_Prices_east), na_Prices_north := (na_Prices_north), na_Prices_west := (na_Prices_west), na_Prices_south := (na_Prices_south), a_Prices_init := (f_Prices_init), d_Prices_init := (_), F_Prices_init := (fun_mk (st := s_Prices_init) l_Prices_init c_Prices_init k_Prices_init), b_Prices_init := ((fun_mk (st := s_Prices_init) l_Prices_init c_Prices_init k_Prices_init).binds (ps := P_Prices_init) fun _ _ _ _ _ _ us hl => match us, hl with | [_, _, _, _, _], _ => rfl), M_Prices := (⟨mk_Prices, m_Prices_init, i_Prices_init, kc_Prices⟩), a_Prices_least_price := (f_Prices_least_price), d_Prices_least_price := (_), F_Prices_least_price := (fun_mk (st := s_Prices_least_price) l_Prices_least_price c_Prices_least_price k_Prices_least_price), b_Prices_least_price := ((fun_mk (st := s_Prices_least_price) l_Prices_least_price c_Prices_least_price k_Prices_least_price).binds (ps := P_Prices_least_price) fun _ _ _ _ _ _ us hl => match us, hl with | [_, _], _ => rfl), M_Prices_least_price := (⟨m_Prices_least_price, i_Prices_least_price, k_Prices_least_price⟩), a_Prices_frame := (f_Prices_frame), d_Prices_frame := (_), F_Prices_frame := (fun_mk (st := s_Prices_frame) l_Prices_frame c_Prices_frame k_Prices_frame), b_Prices_frame := ((fun_mk (st := s_Prices_frame) l_Prices_frame c_Prices_frame k_Prices_frame).binds (ps := P_Prices_frame) fun _ _ _ _ _ _ us hl => match us, hl with | [_, _], _ => rfl), M_Prices_frame := (⟨m_Prices_frame, i_Prices_frame, k_Prices_frame⟩), cn := (cn), ct := (ct), io_Place_int := (io_Place_int), io_Place_bool := (io_Place_bool), is_NoneType_Place := (is_NoneType_Place), sb_NoneType_Place := (sb_NoneType_Place), is_bool_Place := (is_bool_Place), sb_bool_Place := (sb_bool_Place), is_int_Place := (is_int_Place), sb_int_Place := (sb_int_Place), is_str_Place := (is_str_Place), sb_str_Place := (sb_str_Place), is_list_Place := (is_list_Place), sb_list_Place := (sb_list_Place), is_tuple_Place := (is_tuple_Place), sb_tuple_Place := (sb_tuple_Place), is_dict_Place := (is_dict_Place), sb_dict_Place := (sb_dict_Place), is_str_Ready := (is_str_Ready), is_list_Ready := (is_list_Ready), is_tuple_Ready := (is_tuple_Ready), n_abs := (PySem.W.mg_none_of X G n_abs), n_all := (PySem.W.mg_none_of X G n_all), n_bool := (PySem.W.mg_none_of X G n_bool), n_divmod := (PySem.W.mg_none_of X G n_divmod), n_enumerate := (PySem.W.mg_none_of X G n_enumerate), n_int := (PySem.W.mg_none_of X G n_int), n_isinstance := (PySem.W.mg_none_of X G n_isinstance), n_len := (PySem.W.mg_none_of X G n_len), n_list := (PySem.W.mg_none_of X G n_list), n_max := (PySem.W.mg_none_of X G n_max), n_min := (PySem.W.mg_none_of X G n_min), n_range := (PySem.W.mg_none_of X G n_range), n_str := (PySem.W.mg_none_of X G n_str), n_sum := (PySem.W.mg_none_of X G n_sum), n_tuple := (PySem.W.mg_none_of X G n_tuple), n_zip := (PySem.W.mg_none_of X G n_zip), tk_MOST_RUNS := (tk_MOST_RUNS), gc_MOST_RUNS := (PySem.W.mg_of X G gc_MOST_RUNS), tk_MOST_WIDTHS := (tk_MOST_WIDTHS), gc_MOST_WIDTHS := (PySem.W.mg_of X G gc_MOST_WIDTHS), tk_HIGHEST_PRICE := (tk_HIGHEST_PRICE), gc_HIGHEST_PRICE := (PySem.W.mg_of X G gc_HIGHEST_PRICE), tk_LETTERS := (tk_LETTERS), gc_LETTERS := (PySem.W.mg_of X G gc_LETTERS), c_DIRECTIONS := (k_DIRECTIONS), ns_DIRECTIONS := (gc_DIRECTIONS), gc_DIRECTIONS := (PySem.W.mg_of X G gc_DIRECTIONS), mi_gcd := (PySem.W.mg_of X G mi_gcd), mi_isqrt := (PySem.W.mg_of X G mi_isqrt) } ?_
  have e := hfa.symm.trans (PySem.W.mg_of X G g_law)
  cases e
  rfl
abbrev L_DIRECTIONS : List (Str × List V) := [("e", [V.int (1), V.int (0)]), ("n", [V.int (0), V.int (1)]), ("w", [V.int (-1), V.int (0)]), ("s", [V.int (0), V.int (-1)])]
theorem cd_mk_DIRECTIONS {K : PySem.W.Frag} {w : World} {h : Heap} (KX : K.In h) {a b0 b1 b2 b3 : Addr} {es : Array DictEntry} {ep : Nat} {t0 t1 t2 t3 : Tok} {od0 od1 od2 od3 : Option Addr} {its0 its1 its2 its3 : Array Value} {n0 n1 n2 n3 : Nat} {sl0 sl1 sl2 sl3 : Array (Option Value)}
    (x : PySem.W.nsIn K mainGlobals "DIRECTIONS" = some (some (.ref a))) (y : K.lookup a = some ⟨.type "dict", none, .dict es ep, #[]⟩) (z : es.toList = [⟨hashStr w "e", .str "e" t0, .ref b0⟩, ⟨hashStr w "n", .str "n" t1, .ref b1⟩, ⟨hashStr w "w", .str "w" t2, .ref b2⟩, ⟨hashStr w "s", .str "s" t3, .ref b3⟩]) (sm : (a == sysModules) = false)
    (l0 : K.lookup b0 = some ⟨.type "tuple", od0, .seq its0 n0, sl0⟩) (v0 : its0.toList.map absV = ([V.int (1), V.int (0)]).map some) (l1 : K.lookup b1 = some ⟨.type "tuple", od1, .seq its1 n1, sl1⟩) (v1 : its1.toList.map absV = ([V.int (0), V.int (1)]).map some) (l2 : K.lookup b2 = some ⟨.type "tuple", od2, .seq its2 n2, sl2⟩) (v2 : its2.toList.map absV = ([V.int (-1), V.int (0)]).map some) (l3 : K.lookup b3 = some ⟨.type "tuple", od3, .seq its3 n3, sl3⟩) (v3 : its3.toList.map absV = ([V.int (0), V.int (-1)]).map some)
    : CDict K w "DIRECTIONS" L_DIRECTIONS := ⟨fun a' ha' => by
  rw [x] at ha'
  cases ha'
  exact ⟨es, ep, y, by rw [z]; exact ⟨⟨t0, b0, rfl, fun _ => sqT_const l0 v0 (by decide)⟩, ⟨t1, b1, rfl, fun _ => sqT_const l1 v1 (by decide)⟩, ⟨t2, b2, rfl, fun _ => sqT_const l2 v2 (by decide)⟩, ⟨t3, b3, rfl, fun _ => sqT_const l3 v3 (by decide)⟩, trivial⟩, sm⟩⟩
theorem cd_use_DIRECTIONS {K : PySem.W.Frag} {w : World} {goal : Prop} {h : Heap} (KX : K.In h) {a b0 b1 b2 b3 : Addr} {es : Array DictEntry} {ep : Nat} {t0 t1 t2 t3 : Tok} {od0 od1 od2 od3 : Option Addr} {its0 its1 its2 its3 : Array Value} {n0 n1 n2 n3 : Nat} {sl0 sl1 sl2 sl3 : Array (Option Value)}
    (x : PySem.W.nsIn K mainGlobals "DIRECTIONS" = some (some (.ref a))) (y : K.lookup a = some ⟨.type "dict", none, .dict es ep, #[]⟩) (z : es.toList = [⟨hashStr w "e", .str "e" t0, .ref b0⟩, ⟨hashStr w "n", .str "n" t1, .ref b1⟩, ⟨hashStr w "w", .str "w" t2, .ref b2⟩, ⟨hashStr w "s", .str "s" t3, .ref b3⟩]) (sm : (a == sysModules) = false)
    (l0 : K.lookup b0 = some ⟨.type "tuple", od0, .seq its0 n0, sl0⟩) (v0 : its0.toList.map absV = ([V.int (1), V.int (0)]).map some) (l1 : K.lookup b1 = some ⟨.type "tuple", od1, .seq its1 n1, sl1⟩) (v1 : its1.toList.map absV = ([V.int (0), V.int (1)]).map some) (l2 : K.lookup b2 = some ⟨.type "tuple", od2, .seq its2 n2, sl2⟩) (v2 : its2.toList.map absV = ([V.int (-1), V.int (0)]).map some) (l3 : K.lookup b3 = some ⟨.type "tuple", od3, .seq its3 n3, sl3⟩) (v3 : its3.toList.map absV = ([V.int (0), V.int (-1)]).map some) (f : CDict K w "DIRECTIONS" L_DIRECTIONS → goal) : goal := f (cd_mk_DIRECTIONS KX x y z sm l0 v0 l1 v1 l2 v2 l3 v3)
end AW

set_option linter.all false
set_option maxRecDepth 100000
set_option maxHeartbeats 4000000
namespace AW
open PySem PySem.Spec PyProof.Rows L2
section
variable {K : PySem.W.Frag} {mg : Str → Option Value}
/-- the type of a value of the law's -/
def TyT (T : Tx K mg) (t : Value) : Prop := t = .ref T.C_Place ∨ t = .type "NoneType" ∨ t = .type "bool" ∨ t = .type "int" ∨ t = .type "str" ∨ t = .type "list" ∨ t = .type "tuple" ∨ t = .type "dict"
def isI (t : Value) : Bool := t == .type "int" || t == .type "bool"
def isB (t : Value) : Bool := t == .type "bool"
def isP (T : Tx K mg) (t : Value) : Bool := t == .ref T.C_Place
theorem kit_int (T : Tx K mg) {t : Value} (h : TyT T t) : PySem.W.kitOne K t (.type "int") = some (isI t) := by
  rcases h with rfl | rfl | rfl | rfl | rfl | rfl | rfl | rfl
  · exact T.io_Place_int
  all_goals exact kit_ty (by decide +kernel)
theorem kit_bool (T : Tx K mg) {t : Value} (h : TyT T t) : PySem.W.kitOne K t (.type "bool") = some (isB t) := by
  rcases h with rfl | rfl | rfl | rfl | rfl | rfl | rfl | rfl
  · exact T.io_Place_bool
  all_goals exact kit_ty (by decide +kernel)
theorem kit_self {t : Value} : PySem.W.kitOne K t t = some true := by
  unfold PySem.W.kitOne
  rw [if_pos (by simp)]
theorem kit_place (T : Tx K mg) {t : Value} (h : TyT T t) : PySem.W.kitOne K t (.ref T.C_Place) = some (isP T t) := by
  rcases h with rfl | rfl | rfl | rfl | rfl | rfl | rfl | rfl
  · rw [kit_self]; simp [isP]
  · exact T.is_NoneType_Place
  · exact T.is_bool_Place
  · exact T.is_int_Place
  · exact T.is_str_Place
  · exact T.is_list_Place
  · exact T.is_tuple_Place
  · exact T.is_dict_Place
def intV : V → Bool
  | .int _ => true
  | _ => false
theorem intV_of {H : Hp} {v : V} {t : Value} (ty : TyX K H v t) : (isI t && !isB t) = intV v := by
  cases ty with
  | base b => cases b <;> first | rfl | (simp [isI, isB, intV])
  | _ => rfl
/-- a value of the law's, in the heap H -/
def Vl (T : Tx K mg) (H : Hp) (v : V) : Prop := ∃ t, TyX K H v t ∧ TyT T t
theorem TyOf.mono {H H' : Hp} {v : V} {t : Value} (s : Same H H') (h : TyOf K H v t) : TyOf K H' v t := by
  cases h with
  | non => exact .non
  | bl x => exact .bl x
  | int i => exact .int i
  | str x => exact .str x
  | flt x => exact .flt x
  | lst e => exact .lst (s _ _ e)
  | frz e => exact .frz (s _ _ e)
  | tup e => exact .tup (s _ _ e)
  | dK e => exact .dK (s _ _ e)
  | dT e => exact .dT (s _ _ e)
  | ins e cl ha hn htk hm => exact .ins (s _ _ e) cl ha hn htk hm
theorem TyX.mono {H H' : Hp} {v : V} {t : Value} (s : Same H H') (h : TyX K H v t) : TyX K H' v t := by
  cases h with
  | base b => exact .base (TyOf.mono s b)
  | byt b => exact .byt b
  | set e => exact .set (s _ _ e)
  | kList e c => exact .kList e c
  | kTuple e c => exact .kTuple e c
  | kDict e c => exact .kDict e c
  | fTuple e => exact .fTuple (s _ _ e)
  | fDict e => exact .fDict (s _ _ e)
theorem Vl.mono {T : Tx K mg} {H H' : Hp} {v : V} (s : Same H H') (h : Vl T H v) : Vl T H' v := let ⟨t, a, b⟩ := h; ⟨t, TyX.mono s a, b⟩
theorem Vl.int {T : Tx K mg} {H : Hp} (i : Int) : Vl T H (.int i) := ⟨_, .base (.int i), .inr (.inr (.inr (.inl rfl)))⟩
theorem Vl.non {T : Tx K mg} {H : Hp} : Vl T H .non := ⟨_, .base .non, .inr (.inl rfl)⟩
theorem Vl.bl {T : Tx K mg} {H : Hp} (b : Bool) : Vl T H (.bl b) := ⟨_, .base (.bl b), .inr (.inr (.inl rfl))⟩
theorem Vl.str {T : Tx K mg} {H : Hp} (b : Str) : Vl T H (.str b) := ⟨_, .base (.str b), .inr (.inr (.inr (.inr (.inl rfl))))⟩
theorem Vl.lst {T : Tx K mg} {H : Hp} {a : Addr} {xs : List V} (e : H a = some (.lst xs)) : Vl T H (.ref a) := ⟨_, .base (.lst e), .inr (.inr (.inr (.inr (.inr (.inl rfl)))))⟩
theorem Vl.tup {T : Tx K mg} {H : Hp} {a : Addr} {xs : List V} (e : H a = some (.tup xs)) : Vl T H (.ref a) := ⟨_, .base (.tup e), .inr (.inr (.inr (.inr (.inr (.inr (.inl rfl))))))⟩
theorem kxy : ¬ (("x" : Str) = "y") := by decide +kernel
theorem kxa : ¬ (("x" : Str) = "area") := by decide +kernel
theorem kya : ¬ (("y" : Str) = "area") := by decide +kernel
def flds (x y a : Int) : List (Str × V) := [("x", .int x), ("y", .int y), ("area", .int a)]
theorem flds_x (x y a : Int) : (flds x y a).lookup ("x" : Str) = some (.int x) := by simp [flds, List.lookup]
theorem flds_y (x y a : Int) : (flds x y a).lookup ("y" : Str) = some (.int y) := by
  have h : (("y" : Str) == "x") = false := by decide +kernel
  simp [flds, List.lookup, h]
theorem flds_a (x y a : Int) : (flds x y a).lookup ("area" : Str) = some (.int a) := by
  have h : (("area" : Str) == "x") = false := by decide +kernel
  have h2 : (("area" : Str) == "y") = false := by decide +kernel
  simp [flds, List.lookup, h, h2]
/-- a Place (x, y, a) at p -/
def PlAt (T : Tx K mg) (H : Hp) (p : Addr) (x y a : Int) : Prop := ∃ dx, H p = some (.ins T.C_Place dx (flds x y a))
theorem PlAt.mono {T : Tx K mg} {H H' : Hp} {p : Addr} {x y a : Int} (s : Same H H') (h : PlAt T H p x y a) : PlAt T H' p x y a := let ⟨dx, e⟩ := h; ⟨dx, s _ _ e⟩
theorem PlAt.ty {T : Tx K mg} {H : Hp} {p : Addr} {x y a : Int} (h : PlAt T H p x y a) : TyX K H (.ref p) (.ref T.C_Place) := let ⟨_, e⟩ := h; .base (.ins e T.cl_Place T.ca_Place T.cn T.ct T.cm_Place)
theorem PlAt.vl {T : Tx K mg} {H : Hp} {p : Addr} {x y a : Int} (h : PlAt T H p x y a) : Vl T H (.ref p) := ⟨_, h.ty, .inl rfl⟩
theorem Same.laid {H : Hp} {p : Addr} {o : HO} (h : H p = none) : Same H (upd H p o) := fun b u e => by rw [upd_ne (ne_of_none e h)]; exact e
theorem Same.after {H H1 : Hp} {p : Addr} {o : HO} (s : Same H H1) (h : H1 p = none) : Same H (upd H1 p o) := s.trans (Same.laid h)
end
end AW

set_option linter.all false
set_option maxRecDepth 100000
set_option maxHeartbeats 4000000
namespace AW
open PySem PySem.Spec PyProof.Rows L2
section
variable {P : Program} {w : World} {K : PySem.W.Frag} {mg : Str → Option Value} {base : Heap}
/-- what an own error of a base def lets out, by the def's own wish -/
theorem passE {X : Cx} {E : XK} {E₁ : Value → Shared → Prop} (hs : X.stack = X.env :: X.outer := by rfl) (hf : X.env.frame = some X.env.locals := by rfl) (hex : X.ex = [] := by rfl)
    (hx : X.xe = fun e s' => wpAny (model X.prog X.w) X.A (leaving X.env e) (fun _ s'' => L2.CX X.prog X.w X.outer X.H_0 X.s_0 E e s'') E₁ s' := by rfl) : Passes (L2.CX X.prog X.w) X E :=
  passes_call (takes_of hs hf hex hx) (fun _ _ _ _ h => h)
def sp_is_integer (T : Tx K mg) : Sp := fun vs H Q _ => ∃ v, vs = [v] ∧ Vl T H v ∧ Q (.bl (intV v)) H
theorem ok_is_integer (T : Tx K mg) : FnOk P w K mg base (L2.CX P w) 1 T.a_is_integer T.d_is_integer P_is_integer (sp_is_integer T) := by
  refine T.F_is_integer.okX sc_is_integer (fun vs H Q E h => ?_) (fun cdv A outer s H vs Q E hr h => ?_)
  · obtain ⟨v, rfl, _⟩ := h
    rfl
  · obtain ⟨v, rfl, ⟨t, ty, hv⟩, k⟩ := h
    refine ⟨_, pss_one (ps_ret (pe_and (pe_callB call_isi rfl T.n_isinstance (by decide +kernel) (pa_cons (pv 0) (pa_cons (pe_bltn (v := .ty "int") rfl T.n_int (by decide +kernel) rfl) pa_nil)))
      (pe_one (pe_not (pe_callB call_isi rfl T.n_isinstance (by decide +kernel) (pa_cons (pv 0) (pa_cons (pe_bltn (v := .ty "bool") rfl T.n_bool (by decide +kernel) rfl) pa_nil))))))), ?_⟩
    refine ⟨_, rfl, v, .ty "int", t, _, isI t, rfl, .ty _, ty, kit_int T hv, _, rfl, ?_⟩
    cases hi : isI t with
    | false =>
      refine iteF ?_
      have e := intV_of ty
      rw [hi] at e
      have e' : intV v = false := by rw [← e] <;> rfl
      rw [e'] at k
      exact k
    | true =>
      refine iteT ⟨_, rfl, v, .ty "bool", t, _, isB t, rfl, .ty _, ty, kit_bool T hv, _, rfl, ?_⟩
      have e := intV_of ty
      rw [hi, Bool.true_and] at e
      rw [e]
      exact k
/-- an error's own __init__ -/
def sp_einit (C : Addr) (f : Str) : Sp := fun vs H Q _ => ∃ (a : Addr) (v : V), vs = [.ref a, v] ∧ H a = some (exo a C none) ∧ ∀ dx, H dx = none → dx ≠ a → Q .non (upd (upd H dx (exd dx [(f, v)])) a (exo a C (some dx)))
theorem ok_BadNumber_init (T : Tx K mg) : FnOk P w K mg base (L2.CX P w) 1 T.a_BadNumber_init T.d_BadNumber_init P_BadNumber_init (sp_einit T.C_BadNumber "value") := by
  refine T.F_BadNumber_init.okX sc_BadNumber_init (fun vs H Q E h => ?_) (fun cdv A outer s H vs Q E hr h => ?_)
  · obtain ⟨a, v, rfl, _⟩ := h
    rfl
  · obtain ⟨a, v, rfl, ha, k⟩ := h
    refine ⟨_, pss_one (ps_ost (pv 0) (pv 1)), ?_⟩
    exact ⟨_, rfl, _, rfl, a, T.C_BadNumber, rfl, T.X_BadNumber, T.na_BadNumber_value, .inl ⟨ha, fun dx hd ne => k dx hd ne⟩⟩
theorem ok_BadPlace_init (T : Tx K mg) : FnOk P w K mg base (L2.CX P w) 1 T.a_BadPlace_init T.d_BadPlace_init P_BadPlace_init (sp_einit T.C_BadPlace "value") := by
  refine T.F_BadPlace_init.okX sc_BadPlace_init (fun vs H Q E h => ?_) (fun cdv A outer s H vs Q E hr h => ?_)
  · obtain ⟨a, v, rfl, _⟩ := h
    rfl
  · obtain ⟨a, v, rfl, ha, k⟩ := h
    refine ⟨_, pss_one (ps_ost (pv 0) (pv 1)), ?_⟩
    exact ⟨_, rfl, _, rfl, a, T.C_BadPlace, rfl, T.X_BadPlace, T.na_BadPlace_value, .inl ⟨ha, fun dx hd ne => k dx hd ne⟩⟩
/-- the wish for an error with one field: behind it the heap has its dict -/
def Err (H : Hp) (E : XK) (C : Addr) (f : Str) (v : V) : Prop := ∀ (d : Addr) (H' : Hp), Same H H' → H d = none → H' d = some (.xd [(f, v)]) → E (.ref C) (some d) H'
theorem Err.mono {H H1 : Hp} {E : XK} {C : Addr} {f : Str} {v : V} (s : Same H H1) (e : Err H E C f v) : Err H1 E C f v := fun d H' s' n h => e d H' (s.trans s') (s.free n) h
/-- what raise C(v) asks, by the init's promise -/
theorem mk_einit {C : Addr} {f : Str} {σ : L2.St} {H : Hp} {Q : XK} {ta : TA} {v : V} (h : ta σ H fun vs H1 => vs = [v] ∧ H1 = H) (k : Err H Q C f v) (hta : ∀ (Q Q' : List V → Hp → Prop), (∀ vs H, Q vs H → Q' vs H) → ta σ H Q → ta σ H Q') : tMkO C (sp_einit C f) [] ta σ H Q := by
  refine hta _ _ ?_ h
  rintro vs H1 ⟨rfl, rfl⟩
  refine ⟨by show 1 ≤ 1000; decide, fun a ha => ⟨a, v, rfl, upd_same, fun dx hd ne => ⟨rfl, dx, [(f, v)], upd_same, ?_, ?_, ?_⟩⟩⟩
  · rw [upd_ne ne, upd_same]
  · rw [upd_ne ne] at hd; exact hd
  · have hdx : H1 dx = none := by rw [upd_ne ne] at hd; exact hd
    refine k dx _ (fun b o e => ?_) hdx upd_same
    have nb : b ≠ dx := ne_of_none e hdx
    have na : b ≠ a := ne_of_none e ha
    rw [upd_ne nb, del_ne na, upd_ne na, upd_ne nb, upd_ne na]
    exact e
def sp_check_integer (T : Tx K mg) : Sp := fun vs H Q E => ∃ v, vs = [v] ∧ Vl T H v ∧ (intV v = true → Q .non H) ∧ (intV v = false → Err H E T.C_BadNumber "value" v)
theorem ok_check_integer (T : Tx K mg) : FnOk P w K mg base (L2.CX P w) 3 T.a_check_integer T.d_check_integer P_check_integer (sp_check_integer T) := by
  have G1 : FnOk P w K mg base (L2.CX P w) 1 _ _ _ _ := ok_is_integer T
  have G2 : FnOk P w K mg base (L2.CX P w) 1 _ _ _ _ := ok_BadNumber_init T
  refine T.F_check_integer.okX sc_check_integer (fun vs H Q E h => ?_) (fun cdv A outer s H vs Q E hr h => ?_)
  · obtain ⟨v, rfl, _⟩ := h
    rfl
  · obtain ⟨v, rfl, hv, kt, kf⟩ := h
    refine ⟨_, pss_one (ps_if (pt_not (pt_val (pe_call G1 (hr.mono (by decide)) rfl T.g_is_integer T.F_is_integer.kp T.b_is_integer .nil passL (pa_cons (pv 0) pa_nil))))
      (pss_one (ps_raise rfl (takes_of rfl rfl rfl rfl) (pmk_oex T.X_BadNumber T.ei_BadNumber T.et_BadNumber G2 hr T.b_BadNumber_init .nil passL rfl T.g_C_BadNumber (by exact pa_cons (pv 0) pa_nil)))) pss_nil), ?_⟩
    refine ⟨_, rfl, v, rfl, hv, _, rfl, ?_⟩
    cases hi : intV v with
    | true => exact iteF (kt hi)
    | false =>
      refine iteT ?_
      exact mk_einit (v := v) ⟨_, rfl, rfl, rfl⟩ (kf hi) (fun Q Q' h1 ⟨x, e, h2⟩ => ⟨x, e, h1 _ _ h2⟩)
end
end AW

set_option linter.all false
set_option maxRecDepth 100000
set_option maxHeartbeats 4000000
namespace AW
open PySem PySem.Spec PyProof.Rows L2
theorem find_first {α : Type} {p : α → Bool} : ∀ {xs : List α} {i : Nat} {v : α}, xs[i]? = some v → p v = true → (∀ (j : Nat) u, j < i → xs[j]? = some u → p u = false) → xs.find? p = some v
  | [], _, _, h, _, _ => by simp at h
  | a :: r, 0, v, h, hp, _ => by
    simp at h; subst h
    simp [List.find?, hp]
  | a :: r, i + 1, v, h, hp, hq => by
    have ha : p a = false := hq 0 a (Nat.succ_pos _) (by simp)
    simp only [List.find?, ha]
    exact find_first (by simpa using h) hp fun j u hj hu => hq (j + 1) u (Nat.succ_lt_succ hj) (by simpa using hu)
section
variable {P : Program} {w : World} {K : PySem.W.Frag} {mg : Str → Option Value} {base : Heap}
def sp_Place_init (T : Tx K mg) : Sp := fun vs H Q E => ∃ (p dx : Addr) (vx vy va : V), vs = [.ref p, vx, vy, va] ∧ H p = some (.ins T.C_Place dx []) ∧ Vl T H vx ∧ Vl T H vy ∧ Vl T H va ∧
  ((∃ x y a, vx = .int x ∧ vy = .int y ∧ va = .int a ∧ ∀ H' : Hp, (∀ b o, b ≠ p → H b = some o → H' b = some o) → H' p = some (.ins T.C_Place dx (flds x y a)) → Q .non H') ∨
   (∃ v, [vx, vy, va].find? (fun v => !intV v) = some v ∧ Err H E T.C_BadNumber "value" v))
theorem putF3 (x y a : Int) : putF "area" (.int a) (putF "y" (.int y) (putF "x" (.int x) [])) = flds x y a := by
  simp [putF, flds, kxy, kxa, kya]
theorem ok_Place_init (T : Tx K mg) : FnOk P w K mg base (L2.CX P w) 4 T.a_Place_init T.d_Place_init P_Place_init (sp_Place_init T) := by
  have G1 : FnOk P w K mg base (L2.CX P w) 3 _ _ _ _ := ok_check_integer T
  refine T.F_Place_init.okX sc_Place_init (fun vs H Q E h => ?_) (fun cdv A outer s H vs Q E hr h => ?_)
  · obtain ⟨p, dx, vx, vy, va, rfl, _⟩ := h
    rfl
  · obtain ⟨p, dx, vx, vy, va, rfl, hp, hx, hy, ha, k⟩ := h
    refine ⟨_, pss_cons (ps_for (passes_of rfl) rfl (pi_tup (pe_tup (pa_cons (pv 1) (pa_cons (pv 2) (pa_cons (pv 3) pa_nil))))) (pg_name (i := 4) sc_Place_init.nd rfl (.inl rfl))
        (pss_one (ps_expr (pe_call G1 hr rfl T.g_check_integer T.F_check_integer.kp T.b_check_integer .nil (passE (E := E)) (pa_cons (pv 4) pa_nil)))))
      (pss_cons (ps_fld (pv 0) (pv 1) rfl) (pss_cons (ps_fld (pv 0) (pv 2) rfl) (pss_one (ps_fld (pv 0) (pv 3) rfl)))), ?_⟩
    refine ⟨_, rfl, _, rfl, _, rfl, (by show 3 ≤ sizeLine; decide), fun t ht => ⟨t, rfl, ⟨_, SqT.of upd_same⟩, ?_⟩⟩
    have s0 : Same H (upd H t (.tup [vx, vy, va])) := Same.laid ht
    refine for_tup (K := K) (a := t) (xs := [vx, vy, va]) (fun i σ H1 => (∃ v, σ = [some (.ref p), some vx, some vy, some va, v]) ∧ H1 = upd H t (.tup [vx, vy, va]) ∧ ∀ (j : Nat) u, j < i → [vx, vy, va][j]? = some u → (!intV u) = false)
      ⟨⟨none, rfl⟩, rfl, fun j u hj => absurd hj (Nat.not_lt_zero _)⟩ (fun i σ H1 _ ⟨_, e, _⟩ => by rw [e]; exact SqT.of upd_same) ?_ ?_
    · rintro i v σ H1 hi ⟨⟨v0, rfl⟩, rfl, hj⟩
      have hv : Vl T H v := by
        match i, hi with
        | 0, hi => simp at hi; subst hi; exact hx
        | 1, hi => simp at hi; subst hi; exact hy
        | 2, hi => simp at hi; subst hi; exact ha
      refine ⟨_, rfl, v, rfl, hv.mono s0, fun hi' => ⟨⟨_, rfl⟩, rfl, fun j u hlt hu => ?_⟩, fun hi' => ?_⟩
      · rcases Nat.lt_succ_iff_lt_or_eq.mp hlt with h | h
        · exact hj j u h hu
        · subst h; rw [hi] at hu; cases hu; rw [hi']; rfl
      · have hf := find_first (p := fun v => !intV v) hi (by rw [hi']; rfl) hj
        rcases k with ⟨x, y, a, rfl, rfl, rfl, _⟩ | ⟨v', h1, h2⟩
        · simp [List.find?, intV] at hf
        · rw [hf] at h1; cases h1
          exact h2.mono s0
    · rintro σ H1 ⟨⟨v0, rfl⟩, rfl, hj⟩
      rcases k with ⟨x, y, a, rfl, rfl, rfl, k⟩ | ⟨v', h1, h2⟩
      · have np : p ≠ t := ne_of_none hp ht
        refine ⟨_, rfl, _, rfl, p, T.C_Place, dx, [], rfl, (by rw [upd_ne np]; exact hp), T.cl_Place, T.na_Place_x, (by decide), ?_⟩
        refine ⟨_, rfl, _, rfl, p, T.C_Place, dx, _, rfl, upd_same, T.cl_Place, T.na_Place_y, (by show 1 < 1000; decide), ?_⟩
        refine ⟨_, rfl, _, rfl, p, T.C_Place, dx, _, rfl, upd_same, T.cl_Place, T.na_Place_area, (by have h1 := length_putF "y" (V.int y) (putF "x" (V.int x) []); have h2 := length_putF "x" (V.int x) []; have h3 : ([] : List (Str × V)).length = 0 := rfl; omega), ?_⟩
        refine k _ (fun b o nb e => ?_) ?_
        · rw [upd_ne nb, upd_ne nb, upd_ne nb, upd_ne (ne_of_none e ht)]
          exact e
        · rw [upd_same, putF3]
      · have hm := List.find?_some h1
        have hmem := List.mem_of_find?_eq_some h1
        obtain ⟨j, hj1, hj2⟩ := List.getElem_of_mem hmem
        have := hj j v' hj1 (by rw [List.getElem?_eq_getElem hj1, hj2])
        rw [this] at hm
        cases hm
end
end AW

set_option linter.all false
set_option maxRecDepth 100000
set_option maxHeartbeats 4000000
namespace AW
open PySem PySem.Spec PyProof.Rows L2
theorem ifT {c : Bool} {A B : Prop} (hc : c = true) (h : A) : if c = true then A else B := by
  rw [if_pos hc]
  exact h
theorem ifN {c : Bool} {A B : Prop} (hc : c = false) (h : B) : if c = true then A else B := by
  rw [hc, if_neg Bool.false_ne_true]
  exact h
def Bd (k : Nat) (i : Int) : Prop := i.natAbs < 2 ^ k
theorem Bd.mono {k m : Nat} {i : Int} (h : Bd k i) (l : k ≤ m) : Bd m i := Nat.lt_of_lt_of_le h (Nat.pow_le_pow_right (by decide) l)
theorem Bd.neg {k : Nat} {i : Int} (h : Bd k i) : Bd k (-i) := by unfold Bd; rw [Int.natAbs_neg]; exact h
theorem Bd.add {k : Nat} {i j : Int} (h : Bd k i) (g : Bd k j) : Bd (k + 1) (i + j) := by
  unfold Bd at *
  rw [Nat.pow_succ]
  omega
theorem Bd.sub {k : Nat} {i j : Int} (h : Bd k i) (g : Bd k j) : Bd (k + 1) (i - j) := by
  unfold Bd at *
  rw [Nat.pow_succ]
  omega
theorem Bd.mul {k m : Nat} {i j : Int} (h : Bd k i) (g : Bd m j) : Bd (k + m) (i * j) := wide_lt h g
abbrev BIG : Nat := 400000
theorem big_mul {i j : Int} (h : Bd BIG i) (g : Bd BIG j) : CMulW i j := wide_mul h g (by decide) (by decide) (by decide)
section
variable {P : Program} {w : World} {K : PySem.W.Frag} {mg : Str → Option Value} {base : Heap}
theorem notFirst_of (T : Tx K mg) {t : Value} (h : TyT T t) : PySem.W.notFirst K T.C_Place t = true := by
  unfold PySem.W.notFirst
  rcases h with rfl | rfl | rfl | rfl | rfl | rfl | rfl | rfl
  · simp
  · rw [T.sb_NoneType_Place]; simp
  · rw [T.sb_bool_Place]; simp
  · rw [T.sb_int_Place]; simp
  · rw [T.sb_str_Place]; simp
  · rw [T.sb_list_Place]; simp
  · rw [T.sb_tuple_Place]; simp
  · rw [T.sb_dict_Place]; simp
/-- v is no Place -/
def NoP (T : Tx K mg) (H : Hp) (v : V) : Prop := ∃ t, TyX K H v t ∧ TyT T t ∧ isP T t = false
theorem NoP.vl {T : Tx K mg} {H : Hp} {v : V} (h : NoP T H v) : Vl T H v := let ⟨t, a, b, _⟩ := h; ⟨t, a, b⟩
theorem NoP.mono {T : Tx K mg} {H H' : Hp} {v : V} (s : Same H H') (h : NoP T H v) : NoP T H' v := let ⟨t, a, b, c⟩ := h; ⟨t, TyX.mono s a, b, c⟩
/-- isinstance(v, Place): no -/
theorem kit_no (T : Tx K mg) {t : Value} (ht : TyT T t) (e : isP T t = false) : PySem.W.kitOne K t (.ref T.C_Place) = some false := by rw [kit_place T ht, e]
def sp_Place_eq (T : Tx K mg) : Sp := fun vs H Q _ => ∃ (p : Addr) (v : V) (x y a : Int), vs = [.ref p, v] ∧ PlAt T H p x y a ∧
  ((∃ q x' y' a', v = .ref q ∧ PlAt T H q x' y' a' ∧ Q (.bl (decide (x = x' ∧ y = y' ∧ a = a'))) H) ∨ (NoP T H v ∧ Q (.bl false) H))
theorem ok_Place_eq (T : Tx K mg) : FnOk P w K mg base (L2.CX P w) 1 T.a_Place_eq T.d_Place_eq P_Place_eq (sp_Place_eq T) := by
  refine T.F_Place_eq.okX sc_Place_eq (fun vs H Q E h => ?_) (fun cdv A outer s H vs Q E hr h => ?_)
  · obtain ⟨p, v, x, y, a, rfl, _⟩ := h
    rfl
  · obtain ⟨p, v, x, y, a, rfl, hp, k⟩ := h
    refine ⟨_, pss_one (ps_ret (pe_and (pe_callB call_isi rfl T.n_isinstance (by decide +kernel) (pa_cons (pv 1) (pa_cons (pe_glob (v := .ref T.C_Place) rfl T.g_C_Place rfl) pa_nil)))
      (pe_and (pe_cmp (pc_eqI (pe_fld (pv 0) rfl) (pe_fld (pv 1) rfl)) rfl) (pe_and (pe_cmp (pc_eqI (pe_fld (pv 0) rfl) (pe_fld (pv 1) rfl)) rfl) (pe_one (pe_cmp (pc_eqI (pe_fld (pv 0) rfl) (pe_fld (pv 1) rfl)) rfl)))))), ?_⟩
    obtain ⟨dx, ep⟩ := id hp
    rcases k with ⟨q, x', y', a', rfl, hq, k⟩ | ⟨⟨t, ty, ht, e⟩, k⟩
    · obtain ⟨dy, eq⟩ := id hq
      refine ⟨_, rfl, _, _, _, _, true, rfl, .own _, hq.ty, kit_self, _, rfl, iteT ?_⟩
      refine ⟨_, rfl, p, _, dx, _, _, rfl, ep, T.cl_Place, T.na_Place_x, flds_x x y a, _, rfl, q, _, dy, _, _, rfl, eq, T.cl_Place, T.na_Place_x, flds_x x' y' a', _, _, rfl, rfl, _, rfl, ?_⟩
      by_cases h1 : x = x'
      · refine ifT (decide_eq_true h1) ⟨_, rfl, p, _, dx, _, _, rfl, ep, T.cl_Place, T.na_Place_y, flds_y x y a, _, rfl, q, _, dy, _, _, rfl, eq, T.cl_Place, T.na_Place_y, flds_y x' y' a', _, _, rfl, rfl, _, rfl, ?_⟩
        by_cases h2 : y = y'
        · refine ifT (decide_eq_true h2) ⟨_, rfl, p, _, dx, _, _, rfl, ep, T.cl_Place, T.na_Place_area, flds_a x y a, _, rfl, q, _, dy, _, _, rfl, eq, T.cl_Place, T.na_Place_area, flds_a x' y' a', _, _, rfl, rfl, ?_⟩
          have e : decide (a = a') = decide (x = x' ∧ y = y' ∧ a = a') := by simp [h1, h2]
          rw [← e] at k
          exact k
        · refine ifN (decide_eq_false h2) ?_
          have e : decide (x = x' ∧ y = y' ∧ a = a') = false := by simp [h2]
          rw [e] at k
          exact k
      · refine ifN (decide_eq_false h1) ?_
        have e : decide (x = x' ∧ y = y' ∧ a = a') = false := by simp [h1]
        rw [e] at k
        exact k
    · exact ⟨_, rfl, _, _, _, _, false, rfl, .own _, ty, kit_no T ht e, _, rfl, iteF k⟩
def sp_check_place (T : Tx K mg) : Sp := fun vs H Q E => ∃ v, vs = [v] ∧ ((∃ q x y a, v = .ref q ∧ PlAt T H q x y a ∧ Q .non H) ∨ (NoP T H v ∧ Err H E T.C_BadPlace "value" v))
theorem ok_check_place (T : Tx K mg) : FnOk P w K mg base (L2.CX P w) 3 T.a_check_place T.d_check_place P_check_place (sp_check_place T) := by
  have G2 : FnOk P w K mg base (L2.CX P w) 1 _ _ _ _ := ok_BadPlace_init T
  refine T.F_check_place.okX sc_check_place (fun vs H Q E h => ?_) (fun cdv A outer s H vs Q E hr h => ?_)
  · obtain ⟨v, rfl, _⟩ := h
    rfl
  · obtain ⟨v, rfl, k⟩ := h
    refine ⟨_, pss_one (ps_if (pt_not (pt_val (pe_callB call_isi rfl T.n_isinstance (by decide +kernel) (pa_cons (pv 0) (pa_cons (pe_glob (v := .ref T.C_Place) rfl T.g_C_Place rfl) pa_nil)))))
      (pss_one (ps_raise rfl (takes_of rfl rfl rfl rfl) (pmk_oex T.X_BadPlace T.ei_BadPlace T.et_BadPlace G2 (hr.mono (by decide)) T.b_BadPlace_init .nil passL rfl T.g_C_BadPlace (by exact pa_cons (pv 0) pa_nil)))) pss_nil), ?_⟩
    rcases k with ⟨q, x', y', a', rfl, hq, k⟩ | ⟨⟨t, ty, ht, e⟩, k⟩
    · exact ⟨_, rfl, _, _, _, _, true, rfl, .own _, hq.ty, kit_self, _, rfl, iteF k⟩
    · refine ⟨_, rfl, _, _, _, _, false, rfl, .own _, ty, kit_no T ht e, _, rfl, iteT ?_⟩
      exact mk_einit (v := v) ⟨_, rfl, rfl, rfl⟩ k (fun Q Q' h1 ⟨x, e, h2⟩ => ⟨x, e, h1 _ _ h2⟩)
end
end AW

set_option linter.all false
set_option maxRecDepth 100000
set_option maxHeartbeats 4000000
namespace AW
open PySem PySem.Spec PyProof.Rows L2
variable [Tbs]
theorem Bd.add2 {k m : Nat} {i j : Int} (h : Bd k i) (g : Bd m j) : Bd (k + m + 1) (i + j) := Bd.add (h.mono (Nat.le_add_right k m)) (g.mono (Nat.le_add_left m k))
theorem Bd.sub2 {k m : Nat} {i j : Int} (h : Bd k i) (g : Bd m j) : Bd (k + m + 1) (i - j) := Bd.sub (h.mono (Nat.le_add_right k m)) (g.mono (Nat.le_add_left m k))
theorem Bd.fdiv {k : Nat} {i j : Int} (h : Bd k i) : Bd k (i.fdiv j) := by
  unfold Bd at *
  have : (i.fdiv j).natAbs ≤ i.natAbs := Int.natAbs_fdiv_le_natAbs i j
  omega
theorem Bd.lit {i : Int} (k : Nat) (h : decide (i.natAbs < 2 ^ k) = true) : Bd k i := by unfold Bd; exact of_decide_eq_true h
theorem Bd.of_le {k : Nat} {i n : Int} (h0 : -n ≤ i) (h1 : i ≤ n) (h : Bd k n) : Bd k i := by unfold Bd at *; omega
theorem cmc {i j : Int} (h : Bd BIG i) (g : Bd BIG j) : CMulW i j := big_mul h g
section
variable {P : Program} {w : World} {K : PySem.W.Frag} {mg : Str → Option Value} {base : Heap} {E E' : XK} {e : EW} {ρ : List (Option D)} {B : Int} {k : KD} {κ : KS} {ta tb : TE} {t : TA}
def pl (T : Tx K mg) (x y a : Int) : D := .ins T.C_Place ["x", "y", "area"] [.int x, .int y, .int a]
theorem Rep.pl {T : Tx K mg} {G : Hp} {x y a : Int} {v : V} (h : Rep K G B (AW.pl T x y a) v) : ∃ p, v = .ref p ∧ PlAt T G p x y a := by
  obtain ⟨p, dx, vs, rfl, hp, hl, hr⟩ := h
  obtain ⟨_, _, rfl, rfl, _, _, rfl, rfl, _, _, rfl, rfl, rfl⟩ := hr
  exact ⟨p, rfl, dx, hp⟩
theorem PlAt.sub {T : Tx K mg} {G H : Hp} {x y a : Int} {p : Addr} (s : Sub G H) (h : PlAt T G p x y a) : PlAt T H p x y a := let ⟨dx, e⟩ := h; ⟨dx, s _ _ e⟩
theorem we_fx (T : Tx K mg) (h : We K E e ta ρ B fun d B1 => ∃ x y a, d = pl T x y a ∧ k (.int x) B1) : We K E e (tFld K ta "x") ρ B k :=
  we_fld (h.imp fun d B1 ⟨x, y, a, ed, hk⟩ => ⟨_, _, _, .int x, ed, T.cl_Place, T.na_Place_x, by simp [List.lookup], hk⟩)
theorem we_fy (T : Tx K mg) (h : We K E e ta ρ B fun d B1 => ∃ x y a, d = pl T x y a ∧ k (.int y) B1) : We K E e (tFld K ta "y") ρ B k :=
  we_fld (h.imp fun d B1 ⟨x, y, a, ed, hk⟩ => ⟨_, _, _, .int y, ed, T.cl_Place, T.na_Place_y, by
    have h1 : (("y" : Str) == "x") = false := by decide +kernel
    simp [List.lookup, h1], hk⟩)
theorem we_fa (T : Tx K mg) (h : We K E e ta ρ B fun d B1 => ∃ x y a, d = pl T x y a ∧ k (.int a) B1) : We K E e (tFld K ta "area") ρ B k :=
  we_fld (h.imp fun d B1 ⟨x, y, a, ed, hk⟩ => ⟨_, _, _, .int a, ed, T.cl_Place, T.na_Place_area, by
    have h1 : (("area" : Str) == "x") = false := by decide +kernel
    have h2 : (("area" : Str) == "y") = false := by decide +kernel
    simp [List.lookup, h1, h2], hk⟩)
def core : D → D
  | .at_ _ d => core d
  | .tb d => core d
  | d => d
theorem Rep.core {G : Hp} : ∀ {d : D} {v : V}, Rep K G B d v → Rep K G B (AW.core d) v
  | .at_ _ d, _, ⟨_, h⟩ => Rep.core (d := d) h
  | .tb d, _, ⟨_, h⟩ => Rep.core (d := d) h
  | .non, _, h => h
  | .bl _, _, h => h
  | .int _, _, h => h
  | .str _, _, h => h
  | .tup _, _, h => h
  | .lst _, _, h => h
  | .ins _ _ _, _, h => h
  | .pen _ _, _, h => h
  | .scr _, _, h => h
  | .val _, _, h => h
  | .lam _ _, _, h => h
  | .edk, _, h => h
  | .dk _ _, _, h => h
  | .kt _, _, h => h
  | .dt _ _ _, _, h => h
/-- no object of a class of one's own -/
def plainD : D → Bool
  | .ins _ _ _ => false
  | .pen _ _ => false
  | .scr _ => false
  | .val _ => false
  | .lam _ _ => false
  | .dk _ _ => false
  | .kt _ => false
  | .dt _ _ _ => false
  | .at_ _ d => plainD d
  | .tb d => plainD d
  | _ => true
theorem tyx_tup {K : PySem.W.Frag} {H : Hp} {a : Addr} {xs : List V} (h : SqT K H a xs) : TyX K H (.ref a) (.type "tuple") := by
  rcases h with (h | ⟨o, h⟩) | ⟨o, its, n, hk, hc, _⟩
  · exact .base (.tup h)
  · exact .fTuple h
  · exact .kTuple hk hc
theorem Rep.nop {T : Tx K mg} {G H : Hp} (s : Sub G H) : ∀ {d : D} {v : V}, Rep K G B d v → plainD d = true → NoP T H v
  | .non, _, h, _ => by rw [show _ = _ from h]; exact ⟨_, .base .non, .inr (.inl rfl), rfl⟩
  | .bl b, _, h, _ => by rw [show _ = _ from h]; exact ⟨_, .base (.bl b), .inr (.inr (.inl rfl)), rfl⟩
  | .int i, _, h, _ => by rw [show _ = _ from h]; exact ⟨_, .base (.int i), .inr (.inr (.inr (.inl rfl))), rfl⟩
  | .str i, _, h, _ => by rw [show _ = _ from h]; exact ⟨_, .base (.str i), .inr (.inr (.inr (.inr (.inl rfl)))), rfl⟩
  | .lst _, _, ⟨a, vs, e, h, hr⟩, _ => by rw [e]; exact ⟨_, .base (.lst (s _ _ h)), .inr (.inr (.inr (.inr (.inr (.inl rfl))))), rfl⟩
  | .tup _, _, ⟨a, vs, e, h, hr⟩, _ => by rw [e]; exact ⟨_, tyx_tup ((Le.of_sub (B := B) (B' := B) s (Int.le_refl _)).seqT h), .inr (.inr (.inr (.inr (.inr (.inr (.inl rfl)))))), rfl⟩
  | .ins _ _ _, _, _, o => nomatch o
  | .pen _ _, _, _, o => nomatch o
  | .scr _, _, _, o => nomatch o
  | .val _, _, _, o => nomatch o
  | .lam _ _, _, _, o => nomatch o
  | .dk _ _, _, _, o => nomatch o
  | .kt _, _, _, o => nomatch o
  | .dt _ _ _, _, _, o => nomatch o
  | .at_ _ d, _, ⟨_, h⟩, o => Rep.nop s (d := d) h o
  | .tb d, _, ⟨_, h⟩, o => Rep.nop s (d := d) h o
  | .edk, _, ⟨a, e, h⟩, _ => by rw [e]; exact ⟨_, .base (.dK (s _ _ h)), .inr (.inr (.inr (.inr (.inr (.inr (.inr rfl)))))), rfl⟩
/-- a wish for an error of one field -/
theorem Err.ofX {H G : Hp} {C : Addr} {f : Str} {d : D} {v : V} (s : Sub G H) (r : Rep K G B d v) (x : XOk K E e G H B) (h : e C (some ([f], [d])) B) : Err H E C f v := fun dx H' ss nd hd => by
  have e1 : Ext G H B G H' B := ⟨Le.refl _ _, fun a o z => ss _ _ (s _ _ z), fun a o z n _ => ⟨ss _ _ z, n⟩⟩
  exact x C _ B G H' h e1 dx [v] hd rfl ⟨v, [], rfl, r, rfl⟩
def pr_check_place (T : Tx K mg) : Pr := fun ds B k e => ∃ d, ds = [d] ∧ ((∃ x y a, core d = pl T x y a ∧ k .non B) ∨ (plainD d = true ∧ e T.C_BadPlace (some (["value"], [d])) B))
theorem okD_check_place (T : Tx K mg) : FnOk P w K mg base (L2.CX P w) 3 T.a_check_place T.d_check_place P_check_place (spD K (pr_check_place T)) :=
  (ok_check_place T).imp fun vs H Q E ⟨G, ds, B, k, e, hs, hr, ⟨d, ed, h⟩, hk, hx⟩ => by
    subst ed
    obtain ⟨v, _, rfl, rv, rfl⟩ := hr
    refine ⟨v, rfl, ?_⟩
    rcases h with ⟨x, y, a, ec, h⟩ | ⟨h1, h2⟩
    · have rc := rv.core
      rw [ec] at rc
      obtain ⟨p, rfl, hp⟩ := rc.pl
      exact .inl ⟨p, x, y, a, rfl, hp.sub hs, hk _ _ _ _ _ h (Ext.refl hs) rfl⟩
    · exact .inr ⟨rv.nop hs h1, Err.ofX hs rv hx h2⟩
def intD : D → Bool
  | .int _ => true
  | .val v => AW.intV v
  | .at_ _ d => intD d
  | .tb d => intD d
  | _ => false
theorem Rep.intV {G : Hp} : ∀ {d : D} {v : V}, Rep K G B d v → AW.intV v = intD d
  | .non, _, h => by rw [show _ = _ from h]; rfl
  | .bl b, _, h => by rw [show _ = _ from h]; rfl
  | .int i, _, h => by rw [show _ = _ from h]; rfl
  | .str i, _, h => by rw [show _ = _ from h]; rfl
  | .lst _, _, ⟨a, vs, e, h, hr⟩ => by rw [e]; rfl
  | .tup _, _, ⟨a, vs, e, h, hr⟩ => by rw [e]; rfl
  | .ins _ _ _, _, ⟨a, dx, vs, e, _⟩ => by rw [e]; rfl
  | .pen _ _, _, ⟨_, a, _, _, _, _, e, _⟩ => by rw [e]; rfl
  | .scr _, _, ⟨_, a, e, _⟩ => by rw [e]; rfl
  | .lam _ _, _, ⟨f, d, e, _⟩ => by rw [e]; rfl
  | .dk _ _, _, ⟨a, _, e, _⟩ => by rw [e]; rfl
  | .kt _, _, ⟨a, e, _⟩ => by rw [e]; rfl
  | .dt _ _ _, _, ⟨a, _, e, _⟩ => by rw [e]; rfl
  | .at_ _ d, _, ⟨_, h⟩ => Rep.intV (d := d) h
  | .tb d, _, ⟨_, h⟩ => Rep.intV (d := d) h
  | .edk, _, ⟨a, e, _⟩ => by rw [e]; rfl
  | .val _, _, h => by rw [show _ = _ from h]; rfl
def plD (T : Tx K mg) (d : D) : Prop := plainD d = true ∨ ∃ x y a, core d = pl T x y a
theorem Rep.vl {T : Tx K mg} {G H : Hp} {d : D} {v : V} (s : Sub G H) (r : Rep K G B d v) (h : plD T d) : Vl T H v := by
  rcases h with h | ⟨x, y, a, ec⟩
  · exact (r.nop s h).vl
  · have rc := r.core
    rw [ec] at rc
    obtain ⟨p, rfl, hp⟩ := rc.pl
    exact (hp.sub s).vl
def pr_is_integer (T : Tx K mg) : Pr := fun ds B k e => ∃ d, ds = [d] ∧ plD T d ∧ k (.bl (intD d)) B
theorem okD_is_integer (T : Tx K mg) : FnOk P w K mg base (L2.CX P w) 1 T.a_is_integer T.d_is_integer P_is_integer (spD K (pr_is_integer T)) :=
  (ok_is_integer T).imp fun vs H Q E ⟨G, ds, B, k, e, hs, hr, ⟨d, ed, hd, h⟩, hk, hx⟩ => by
    subst ed
    obtain ⟨v, _, rfl, rv, rfl⟩ := hr
    refine ⟨v, rfl, rv.vl hs hd, ?_⟩
    rw [rv.intV]
    exact hk _ _ _ _ _ h (Ext.refl hs) rfl
def pr_check_integer (T : Tx K mg) : Pr := fun ds B k e => ∃ d, ds = [d] ∧ plD T d ∧ (intD d = true → k .non B) ∧ (intD d = false → e T.C_BadNumber (some (["value"], [d])) B)
theorem okD_check_integer (T : Tx K mg) : FnOk P w K mg base (L2.CX P w) 3 T.a_check_integer T.d_check_integer P_check_integer (spD K (pr_check_integer T)) :=
  (ok_check_integer T).imp fun vs H Q E ⟨G, ds, B, k, e, hs, hr, ⟨d, ed, hd, h1, h2⟩, hk, hx⟩ => by
    subst ed
    obtain ⟨v, _, rfl, rv, rfl⟩ := hr
    refine ⟨v, rfl, rv.vl hs hd, fun z => ?_, fun z => ?_⟩
    · rw [rv.intV] at z
      exact hk _ _ _ _ _ (h1 z) (Ext.refl hs) rfl
    · rw [rv.intV] at z
      exact Err.ofX hs rv hx (h2 z)
def pr_Place_init : List D → Int → (List D → Int → Prop) → EW → Prop := fun ds B k e => ∃ x y a : Int, ds = [.int x, .int y, .int a] ∧ k [.int x, .int y, .int a] B
theorem okD_Place_init (T : Tx K mg) : FnOk P w K mg base (L2.CX P w) 4 T.a_Place_init T.d_Place_init P_Place_init (spI K T.C_Place ["x", "y", "area"] pr_Place_init) :=
  (ok_Place_init T).imp fun vs H Q E ⟨p, dx, ws, G, ds, B, k, e, ev, hp, gp, gd, ne, hd, hs, hr, ⟨x, y, a, ed, h⟩, hk, hx⟩ => by
    subst ed
    subst ev
    obtain ⟨_, _, rfl, rfl, _, _, rfl, rfl, _, _, rfl, rfl, rfl⟩ := hr
    refine ⟨p, dx, _, _, _, rfl, hp, .int _, .int _, .int _, .inl ⟨x, y, a, rfl, rfl, rfl, fun H' s z => ?_⟩⟩
    exact hk _ [.int x, .int y, .int a] B G H' h (Le.refl _ _) (fun b o q => s b o (ne_of_none q gp) (hs _ _ q)) (fun b o q n nb _ => ⟨s b o nb q, n⟩) gp z rfl ⟨_, _, rfl, rfl, _, _, rfl, rfl, _, _, rfl, rfl, rfl⟩
def pr_Place_eq (T : Tx K mg) : Pr := fun ds B k e => ∃ x y a d, ds = [pl T x y a, d] ∧ ((∃ x' y' a', d = pl T x' y' a' ∧ k (.bl (decide (x = x' ∧ y = y' ∧ a = a'))) B) ∨ (plainD d = true ∧ k (.bl false) B))
theorem okD_Place_eq (T : Tx K mg) : FnOk P w K mg base (L2.CX P w) 1 T.a_Place_eq T.d_Place_eq P_Place_eq (spD K (pr_Place_eq T)) :=
  (ok_Place_eq T).imp fun vs H Q E ⟨G, ds, B, k, e, hs, hr, ⟨x, y, a, d, ed, h⟩, hk, hx⟩ => by
    subst ed
    obtain ⟨v, _, rfl, rv, u, _, rfl, ru, rfl⟩ := hr
    obtain ⟨p, rfl, hp⟩ := rv.pl
    refine ⟨p, u, x, y, a, rfl, hp.sub hs, ?_⟩
    rcases h with ⟨x', y', a', rfl, h⟩ | ⟨h1, h2⟩
    · obtain ⟨q, rfl, hq⟩ := ru.pl
      exact .inl ⟨q, x', y', a', rfl, hq.sub hs, hk _ _ _ _ _ h (Ext.refl hs) rfl⟩
    · exact .inr ⟨ru.nop hs h1, hk _ _ _ _ _ h2 (Ext.refl hs) rfl⟩
variable {pr : Pr}
/-- an own operator of a place -/
theorem ro_own (T : Tx K mg) {x y a x' y' a' : Int} (h : pr [pl T x y a, pl T x' y' a'] B k noE) : Ro K E e (rOpO K T.C_Place .Mult (spD K pr) E') (pl T x y a) (pl T x' y' a') B k := fun u v H G Q s r1 r2 _ q => by
  obtain ⟨p, rfl, dx, hp⟩ := r1.pl
  obtain ⟨p', rfl, hp'⟩ := r2.pl
  exact ⟨p, dx, _, _, rfl, s _ _ hp, (hp'.sub s).ty, .same, G, [pl T x y a, pl T x' y' a'], B, k, noE, s, ⟨_, _, rfl, r1, _, _, rfl, r2, rfl⟩, h, q, XOk.no⟩
theorem ro_ownEq (T : Tx K mg) {g : Bool → Bool} {x y a x' y' a' : Int} (h : pr [pl T x y a, pl T x' y' a'] B (fun d B' => ∃ b, d = .bl b ∧ k (.bl (g b)) B') noE) : Ro K E e (rEqO K T.C_Place (spD K pr) E' g) (pl T x y a) (pl T x' y' a') B k := fun u v H G Q s r1 r2 _ q => by
  obtain ⟨p, rfl, dx, hp⟩ := r1.pl
  obtain ⟨p', rfl, hp'⟩ := r2.pl
  refine ⟨p, dx, _, _, rfl, s _ _ hp, (hp'.sub s).ty, notFirst_of T (.inl rfl), G, [pl T x y a, pl T x' y' a'], B, _, noE, s, ⟨_, _, rfl, r1, _, _, rfl, r2, rfl⟩, h, fun d v B' G' H' hz ee rr => ?_, XOk.no⟩
  obtain ⟨b, rfl, hz⟩ := hz
  exact ⟨b, rr, q _ _ _ _ _ hz ee rfl⟩
theorem we_inv (T : Tx K mg) (h : We K E e ta ρ B fun d B1 => ∃ x y a, d = pl T x y a ∧ pr [pl T x y a] B1 k noE) : We K E e (tUn (rUnO T.C_Place (spD K pr) E') ta) ρ B k :=
  we_un (h.imp fun d B1 ⟨x, y, a, ed, hk⟩ u H G Q s r xo q => by
    subst ed
    obtain ⟨p, rfl, dx, hp⟩ := r.pl
    exact ⟨p, dx, _, rfl, s _ _ hp, G, [pl T x y a], B1, k, noE, s, ⟨_, _, rfl, r, rfl⟩, hk, q, XOk.no⟩)
theorem we_place (T : Tx K mg) (h : Wa K E e t ρ B fun ds B1 => ∃ x y a : Int, ds = [.int x, .int y, .int a] ∧ k (pl T x y a) B1) : We K E e (tMake T.C_Place (spI K T.C_Place ["x", "y", "area"] pr_Place_init) [] E' t) ρ B k :=
  we_make fun σ H G Q s en x q => h σ H G Q s en x fun ds vs B1 G1 H1 ⟨x, y, a, ed, hk⟩ e1 r1 => q ds vs B1 G1 H1 ⟨x, y, a, ed, hk⟩ e1 r1
/-- raise C(d), C with one field -/
theorem ws_raise1 {C : Addr} {f : Str} (h : Wa K E e t ρ B fun ds B1 => ∃ d, ds = [d] ∧ e C (some ([f], [d])) B1) : Ws K E e (fun _ σ H => tMkO C (sp_einit C f) [] t σ H fun cls d H' => E cls d H') ρ B κ := fun σ H G Dn s en x q =>
  h σ H G _ s en x fun ds vs B1 G1 H1 ⟨d, ed, he⟩ e1 r1 => by
    subst ed
    obtain ⟨v, _, rfl, rv, rfl⟩ := r1
    exact mk_einit (σ := σ) (ta := fun _ H Q => Q [v] H) ⟨rfl, rfl⟩ (Err.ofX e1.sub rv (x.ext e1) he) fun Q Q' h1 h2 => h1 _ _ h2
end
end AW

set_option linter.all false
set_option maxRecDepth 100000
set_option maxHeartbeats 4000000
namespace AW
open PySem PySem.Spec PyProof.Rows L2
abbrev kC : Key := Sum.inr "cells"
abbrev kS : Key := Sum.inr "stop"
abbrev kR : Key := Sum.inr "rest"
theorem kCS : ¬ (kC = kS) := by decide +kernel
theorem kCR : ¬ (kC = kR) := by decide +kernel
theorem kSR : ¬ (kS = kR) := by decide +kernel
theorem kRS : ¬ (kR = kS) := by decide +kernel
def penD (c : Addr) (s r : Int) : List (Key × V) := [(kC, .ref c), (kS, .int s), (kR, .int r)]
theorem pen_c (c : Addr) (s r : Int) : valV (penD c s r) kC = some (.ref c) := valV_pos rfl
theorem pen_s (c : Addr) (s r : Int) : valV (penD c s r) kS = some (.int s) := (valV_neg kCS).trans (valV_pos rfl)
theorem pen_r (c : Addr) (s r : Int) : valV (penD c s r) kR = some (.int r) := (valV_neg kCR).trans ((valV_neg kSR).trans (valV_pos rfl))
theorem pen_ps (c : Addr) (s r z : Int) : putK (penD c s r) kS (.int z) = penD c z r := by
  unfold putK
  rw [if_pos (by rw [valV_any, pen_s]; rfl)]
  show [if kC = kS then (kC, V.int z) else (kC, V.ref c), if kS = kS then (kS, V.int z) else (kS, V.int s), if kR = kS then (kR, V.int z) else (kR, V.int r)] = penD c z r
  rw [if_neg kCS, if_pos rfl, if_neg kRS]
  rfl
theorem pen_pr (c : Addr) (s r z : Int) : putK (penD c s r) kR (.int z) = penD c s z := by
  unfold putK
  rw [if_pos (by rw [valV_any, pen_r]; rfl)]
  show [if kC = kR then (kC, V.int z) else (kC, V.ref c), if kS = kR then (kS, V.int z) else (kS, V.int s), if kR = kR then (kR, V.int z) else (kR, V.int r)] = penD c s z
  rw [if_neg kCR, if_neg kSR, if_pos rfl]
  rfl
theorem pen_mk (c : Addr) (s r : Int) : mergeK [] [(kC, .ref c), (kS, .int s), (kR, .int r)] = penD c s r := by
  unfold mergeK
  show putK (putK (putK [] kC (.ref c)) kS (.int s)) kR (.int r) = penD c s r
  rw [L2.putK_new _ valV_nil]
  rw [L2.putK_new _ (show valV ([] ++ [(kC, V.ref c)]) kS = none from valV_neg kCS)]
  rw [L2.putK_new _ (show valV ([] ++ [(kC, V.ref c)] ++ [(kS, V.int s)]) kR = none from (valV_neg kCR).trans (valV_neg kSR))]
  rfl
/-- the pen at p: its cells, at most 63 ints; no more than B stops so far -/
structure Pen (H : Hp) (p : Addr) (B : Int) : Prop where
  at_ : ∃ (c : Addr) (ns : List Int) (s r : Int), H p = some (.dK (penD c s r)) ∧ H c = some (.lst (ns.map V.int)) ∧ ns.length ≤ 63 ∧ 0 ≤ s ∧ s ≤ B
theorem dg_c {H : Hp} {p c : Addr} {s r : Int} (e : H p = some (.dK (penD c s r))) : DGet H p (.str "cells") (some (.ref c)) := by
  have h := DGet.k (k := kC) e
  rw [pen_c] at h
  exact h
theorem dg_s {H : Hp} {p c : Addr} {s r : Int} (e : H p = some (.dK (penD c s r))) : DGet H p (.str "stop") (some (.int s)) := by
  have h := DGet.k (k := kS) e
  rw [pen_s] at h
  exact h
theorem dg_r {H : Hp} {p c : Addr} {s r : Int} (e : H p = some (.dK (penD c s r))) : DGet H p (.str "rest") (some (.int r)) := by
  have h := DGet.k (k := kR) e
  rw [pen_r] at h
  exact h
theorem dp_s {H : Hp} {p c : Addr} {s r z : Int} (e : H p = some (.dK (penD c s r))) : DPut H p (.str "stop") (.int z) (upd H p (.dK (penD c z r))) := by
  have h := DPut.k (k := kS) (v := .int z) e (by show 3 < sizeLine; decide)
  rw [pen_ps] at h
  exact h
theorem dp_r {H : Hp} {p c : Addr} {s r z : Int} (e : H p = some (.dK (penD c s r))) : DPut H p (.str "rest") (.int z) (upd H p (.dK (penD c s z))) := by
  have h := DPut.k (k := kR) (v := .int z) e (by show 3 < sizeLine; decide)
  rw [pen_pr] at h
  exact h
/-- all but the pen stays -/
structure But (p : Addr) (H H' : Hp) : Prop where
  st : ∀ b o, b ≠ p → H b = some o → H' b = some o
  cl : ∀ c s r, H p = some (.dK (penD c s r)) → ∃ s' r', H' p = some (.dK (penD c s' r'))
theorem But.refl {p : Addr} (H : Hp) : But p H H := ⟨fun _ _ _ h => h, fun _ s r h => ⟨s, r, h⟩⟩
theorem But.trans {p : Addr} {H H1 H2 : Hp} (a : But p H H1) (b : But p H1 H2) : But p H H2 :=
  ⟨fun c o n h => b.st c o n (a.st c o n h), fun c s r h => by
    obtain ⟨s1, r1, h1⟩ := a.cl c s r h
    exact b.cl c s1 r1 h1⟩
theorem But.of {p : Addr} {H H' : Hp} (s : Same H H') : But p H H' := ⟨fun b o _ h => s b o h, fun c z r h => ⟨z, r, s _ _ h⟩⟩
theorem penD_inj {c c' : Addr} {s r s' r' : Int} (h : penD c s r = penD c' s' r') : c = c' := by
  injection h with h1 _
  injection h1 with _ h2
  injection h2
theorem But.upd {p c : Addr} {z r z' r' : Int} {H H' : Hp} (s : But p H H') (e : H' p = some (.dK (penD c z r))) : But p H (upd H' p (.dK (penD c z' r'))) :=
  ⟨fun b u n h => by rw [upd_ne n]; exact s.st b u n h, fun c2 s2 r2 h => by
    obtain ⟨s3, r3, h3⟩ := s.cl c2 s2 r2 h
    rw [e] at h3
    injection h3 with h3
    injection h3 with h3
    rw [penD_inj h3] at *
    exact ⟨z', r', upd_same⟩⟩
theorem But.new {p q : Addr} {H H' : Hp} {o : HO} (s : But p H H') (h : H' q = none) : But p H (L2.upd H' q o) :=
  ⟨fun b u n e => by
    have e' := s.st b u n e
    rw [upd_ne (ne_of_none e' h)]
    exact e', fun c z r e => by
    obtain ⟨z1, r1, e1⟩ := s.cl c z r e
    exact ⟨z1, r1, by rw [upd_ne (ne_of_none e1 h)]; exact e1⟩⟩
theorem Pen.mono {H H' : Hp} {p : Addr} {B B' : Int} (h : Pen H p B) (l : B ≤ B') (s : Same H H') : Pen H' p B' := by
  obtain ⟨c, ns, z, r, e1, e2, h1, h2, h3⟩ := h.at_
  exact ⟨⟨c, ns, z, r, s _ _ e1, s _ _ e2, h1, h2, Int.le_trans h3 l⟩⟩
theorem Pen.le {H : Hp} {p : Addr} {B B' : Int} (h : Pen H p B) (l : B ≤ B') : Pen H p B' := h.mono l (Same.refl H)
theorem fmod_in {a b : Int} (h : 0 < b) : 0 ≤ a.fmod b ∧ a.fmod b < b := ⟨Int.fmod_nonneg_of_pos a h, Int.fmod_lt_of_pos a h⟩
section
variable {P : Program} {w : World} {K : PySem.W.Frag} {mg : Str → Option Value} {base : Heap}
def sp_l_pen (T : Tx K mg) : Sp := fun vs H Q E => ∃ (a : Addr) (ns : List Int), vs = [.ref a] ∧ SqL K H a (ns.map V.int) ∧ ns.length ≤ 63 ∧ ∀ p c H', Same H H' → H p = none → H c = none → c ≠ p → H' p = some (.dK (penD c 0 0)) → H' c = some (.lst (ns.map V.int)) → Q (.ref p) H'
theorem ok_l_pen (T : Tx K mg) : FnOk P w K mg base (L2.CX P w) 1 T.a_l_pen T.d_l_pen P_l_pen (sp_l_pen T) := by
  refine T.F_l_pen.okX sc_l_pen (fun vs H Q E h => ?_) (fun cdv A outer s H vs Q E hr h => ?_)
  · obtain ⟨a, ns, rfl, _⟩ := h
    rfl
  · obtain ⟨a, ns, rfl, hS, hlen, k⟩ := h
    refine ⟨_, pss_one (ps_ret (pe_disp (pps_cons pe_str (pe_callTy call_list_of rfl T.n_list (by decide +kernel) (pa_cons (pe_slice sl_list (pv 0) po_none (po_some pe_int)) pa_nil))
      (pps_cons pe_str pe_int (pps_cons pe_str pe_int pps_nil))) (by rfl) (by rfl) (fun z => by cases z) (by decide))), ?_⟩
    refine fun p np => ?_
    have s1 : Same H (upd H p (.dK [])) := Same.laid np
    refine ⟨_, rfl, _, rfl, a, _, rfl, s1.seq hS, fun q nq => ⟨q, _, rfl, .inl (.of upd_same), fun l nl => ?_⟩⟩
    have npq : p ≠ q := ne_of_none upd_same nq
    have nql : q ≠ l := ne_of_none upd_same nl
    have npl : p ≠ l := ne_of_none (by rw [upd_ne npq]; exact upd_same) nl
    refine ⟨by rw [upd_ne npl, upd_ne npq, upd_same], [(kC, .ref l), (kS, .int 0), (kR, .int 0)], rfl, (by show 3 ≤ 15; decide), ?_⟩
    have hcut : cutV (ns.map V.int) none (some 63) = ns.map V.int := by
      unfold cutV
      have e1 : HT.sIx (ns.map V.int).length 0 none = 0 := rfl
      have e2 : (ns.map V.int).length ≤ 63 := by rw [List.length_map]; exact hlen
      rw [e1]
      show ((ns.map V.int).drop 0).take _ = _
      rw [List.drop_zero, List.take_of_length_le]
      have e3 : HT.sIx (ns.map V.int).length (ns.map V.int).length (some 63) = (ns.map V.int).length := by
        simp [HT.sIx]
        omega
      rw [e3]
      omega
    have sF : Same H (upd (upd (upd (upd H p (.dK [])) q (.lst (cutV (ns.map V.int) none (some 63)))) l (.lst (cutV (ns.map V.int) none (some 63)))) p (.dK (mergeK [] [(kC, .ref l), (kS, .int 0), (kR, .int 0)]))) := fun b o e => by
      have nb : b ≠ p := ne_of_none e np
      have e1 : upd H p (.dK []) b = some o := by rw [upd_ne nb]; exact e
      have nq' : b ≠ q := ne_of_none e1 nq
      have e2 : upd (upd H p (.dK [])) q (.lst (cutV (ns.map V.int) none (some 63))) b = some o := by rw [upd_ne nq']; exact e1
      rw [upd_ne nb, upd_ne (ne_of_none e2 nl)]
      exact e2
    have nl0 : H l = none := by
      cases z : H l with
      | none => rfl
      | some u =>
        have z1 := s1 _ _ z
        have nql' : l ≠ q := fun w => by rw [w, nq] at z1; cases z1
        rw [upd_ne nql', z1] at nl
        cases nl
    refine k p l _ sF np nl0 npl.symm ?_ ?_
    · rw [pen_mk]; exact upd_same
    · rw [upd_ne npl.symm, upd_same, hcut]
end
end AW

set_option linter.all false
set_option maxRecDepth 100000
set_option maxHeartbeats 8000000
namespace AW
open PySem PySem.Spec PyProof.Rows L2
section
variable {P : Program} {w : World} {K : PySem.W.Frag} {mg : Str → Option Value} {base : Heap}
theorem dp_ints {K : PySem.W.Frag} {H : Hp} : ∀ ms : List Int, DpAll K H (ms.map V.int) (ms.map PyData.int)
  | [] => .nil
  | m :: r => .cons (.int m) (dp_ints r)
theorem sh_ints (ms : List Int) : SeqAt.shaped (.list (ms.map PyData.int)) = true := PySem.W.ke_shaped_ints ms
/-- a drawn number, the pen a stop further at most -/
def Drawn (H : Hp) (Q : VK) (p : Addr) (B : Int) (ok : Int → Prop) : Prop := ∀ (d : Int) (H' : Hp), ok d → But p H H' → Pen H' p B → Q (.int d) H'
def sp_l_draw (T : Tx K mg) : Sp := fun vs H Q E => ∃ (p : Addr) (n B : Int), vs = [.ref p, .int n] ∧ 0 < n ∧ n < 1073741824 ∧ Pen H p B ∧ B ≤ 1000000 ∧ Drawn H Q p (B + 1) fun d => 0 ≤ d ∧ d < n
theorem ok_l_draw (T : Tx K mg) : FnOk P w K mg base (L2.CX P w) 1 T.a_l_draw T.d_l_draw P_l_draw (sp_l_draw T) := by
  refine T.F_l_draw.okX sc_l_draw (fun vs H Q E h => ?_) (fun cdv A outer s H vs Q E hr h => ?_)
  · obtain ⟨p, n, B, rfl, _⟩ := h
    rfl
  · obtain ⟨p, n, B, rfl, h0, h1, hp, hB, k⟩ := h
    have hu := hu_of hr
    obtain ⟨c, ns, st, rs, e1, e2, hl, hs0, hsB⟩ := hp.at_
    have npc : p ≠ c := ne_of e1 e2 (by intro z; cases z)
    refine ⟨_, (pss_cons (ps_if (pt_cmpR op_ge (pe_dget hu (pv 0) pe_str (fun _ _ => rfl)) (pv 1) (nomark _))
 (pss_cons (ps_set (i := 2) sc_l_draw.nd rfl (.inl rfl) (pe_op op_modN (pe_callTy call_int1 (by rfl) T.n_int (by decide +kernel) (pa_cons (pe_dget hu (pv 0) pe_str (fun _ _ => rfl)) pa_nil)) (pv 1)))
 (pss_cons (ps_dput hu (pv 0) pe_str (pe_op op_fdivN (pe_dget hu (pv 0) pe_str (fun _ _ => rfl)) (pv 1)) rfl)
 (pss_one (ps_ret (pv 2)))))
 pss_nil)
 (pss_cons (ps_set (i := 3) sc_l_draw.nd rfl (.inl rfl) (pe_dget hu (pv 0) pe_str (fun _ _ => rfl)))
 (pss_cons (ps_dput hu (pv 0) pe_str (pe_op op_add (pv 3) pe_int) rfl)
 (pss_cons (ps_set (i := 4) sc_l_draw.nd rfl (.inl rfl) (pe_op op_add (pe_op op_mul pe_int (pv 3)) pe_int))
 (pss_cons (ps_if (pt_cmpR (op_neD hr.units) (pe_dget hu (pv 0) pe_str (fun _ _ => rfl)) (pe_lst pa_nil) (nomark _))
 (pss_one (ps_set (i := 4) sc_l_draw.nd rfl (.inl rfl) (pe_ix ix_list (pe_dget hu (pv 0) pe_str (fun _ _ => rfl)) (pe_op op_modN (pe_callTy call_int1 (by rfl) T.n_int (by decide +kernel) (pa_cons (pv 3) pa_nil)) (pe_callB call_len_seq (by rfl) T.n_len (by decide +kernel) (pa_cons (pe_dget hu (pv 0) pe_str (fun _ _ => rfl)) pa_nil))) (fun _ _ => rfl))))
 pss_nil)
 (pss_cons (ps_if (PW.pt (pw_and (pt_cmpR op_lt (pv 3) (pe_callB call_len_seq (by rfl) T.n_len (by decide +kernel) (pa_cons (pe_dget hu (pv 0) pe_str (fun _ _ => rfl)) pa_nil)) (nomark _)) (pw_and1 (pt_cmpR op_ge (pv 4) (pe_op op_pow pe_int pe_int) (nomark _)))))
 (pss_cons (ps_dput hu (pv 0) pe_str (pe_op op_fdivN (pe_op op_sub (pv 4) (pe_op op_pow pe_int pe_int)) (pv 1)) rfl)
 (pss_one (ps_ret (pe_op op_modN (pe_callTy call_int1 (by rfl) T.n_int (by decide +kernel) (pa_cons (pe_op op_sub (pv 4) (pe_op op_pow pe_int pe_int)) pa_nil)) (pv 1)))))
 pss_nil)
 (pss_cons (ps_set (i := 5) sc_l_draw.nd rfl (.inl rfl) (pe_op op_mul (pe_op op_modN (pe_callTy call_int1 (by rfl) T.n_int (by decide +kernel) (pa_cons (pv 4) pa_nil)) pe_int) pe_int))
 (pss_cons (ps_set (i := 5) sc_l_draw.nd rfl (.inl rfl) (pe_op op_modN (pe_callTy call_int1 (by rfl) T.n_int (by decide +kernel) (pa_cons (pe_op op_add (pe_op op_add (pe_op op_add (pv 5) (pe_op op_mul (pe_op op_mul pe_int (pv 3)) (pv 3))) (pe_op op_mul pe_int (pv 3))) pe_int) pa_nil)) pe_int))
 (pss_cons (ps_set (i := 5) sc_l_draw.nd rfl (.inl rfl) (pe_op op_modN (pe_callTy call_int1 (by rfl) T.n_int (by decide +kernel) (pa_cons (pe_op op_mul (pv 5) (pe_op op_add (pv 5) pe_int)) pa_nil)) pe_int))
 (pss_one (ps_ret (pe_op op_modN (pe_callTy call_int1 (by rfl) T.n_int (by decide +kernel) (pa_cons (pe_op op_fdivN (pe_op op_modN (pe_callTy call_int1 (by rfl) T.n_int (by decide +kernel) (pa_cons (pe_op op_add (pe_op op_mul (pv 5) (pv 5)) (pe_op op_mul pe_int (pv 5))) pa_nil)) pe_int) pe_int) pa_nil)) (pv 1))))))))))))), ?_⟩
    have dn : CDivN rs n := ⟨by omega, by omega⟩
    refine ⟨_, rfl, p, _, rfl, dg_r e1, _, rfl, _, _, rfl, rfl, _, rfl, ?_⟩
    refine ite2 (fun _ => ?_) (fun _ => ?_)
    · refine ⟨_, rfl, p, _, rfl, dg_r e1, .inl ⟨_, rfl, _, rfl, _, _, rfl, rfl, (by omega), ?_⟩⟩
      refine ⟨_, rfl, p, _, rfl, dg_r e1, _, rfl, _, _, rfl, rfl, dn, _, rfl, p, _, rfl, dp_r e1, ?_⟩
      refine ⟨_, rfl, k _ _ (fmod_in h0) (But.upd (But.refl H) e1) ⟨c, ns, st, _, upd_same, by rw [upd_ne npc.symm]; exact e2, hl, hs0, by omega⟩⟩
    · refine ⟨_, rfl, p, _, rfl, dg_s e1, ?_⟩
      refine ⟨_, rfl, _, _, rfl, rfl, _, rfl, p, _, rfl, dp_s e1, ?_⟩
      refine ⟨_, rfl, _, _, rfl, rfl, .inl ⟨by decide, by decide⟩, _, _, rfl, rfl, ?_⟩
      have hp1 : upd H p (.dK (penD c (st + 1) rs)) p = some (.dK (penD c (st + 1) rs)) := upd_same
      have hc1 : upd H p (.dK (penD c (st + 1) rs)) c = some (.lst (ns.map V.int)) := by rw [upd_ne npc.symm]; exact e2
      have b1 : But p H (upd H p (.dK (penD c (st + 1) rs))) := But.upd (But.refl H) e1
      generalize upd H p (.dK (penD c (st + 1) rs)) = H1 at hp1 hc1 b1 ⊢
      refine ⟨_, rfl, p, _, rfl, dg_c hp1, (by show 0 ≤ sizeLine; decide), fun e0 ne0 => ?_⟩
      have se0 : Same H1 (upd H1 e0 (.lst [])) := Same.laid ne0
      have hp2 := se0 _ _ hp1
      have hc2 := se0 _ _ hc1
      have b2 : But p H (upd H1 e0 (.lst [])) := b1.new ne0
      have he2 : upd H1 e0 (.lst []) e0 = some (.lst []) := upd_same
      generalize upd H1 e0 (.lst []) = H2 at hp2 hc2 b2 he2 ⊢
      refine ⟨.list (ns.map PyData.int), .list [], .lst (SqL.of hc2) (dp_ints ns), .lst (SqL.of he2) .nil, sh_ints ns, rfl, _, rfl, ?_⟩
      have dz : ∀ z : Int, CDivN z n := fun z => ⟨by omega, by omega⟩
      have n0 : n ≠ 0 := by omega
      have cp : CPow 10 18 := ⟨by decide, by decide, by decide⟩
      have nzA : (2147483269 : Int) ≠ 0 := by decide
      have nzB : (2147483323 : Int) ≠ 0 := by decide
      have nzC : (2147483353 : Int) ≠ 0 := by decide
      have nzD : (2147483399 : Int) ≠ 0 := by decide
      have bB : ∀ x : Int, -(2 ^ 64) < x.fmod 2147483323 ∧ x.fmod 2147483323 < 2 ^ 64 := fun x => by have := fmod_in (a := x) (b := 2147483323) (by decide); omega
      have bC : ∀ x : Int, -(2 ^ 64) < x.fmod 2147483353 ∧ x.fmod 2147483353 < 2 ^ 64 := fun x => by have := fmod_in (a := x) (b := 2147483353) (by decide); omega
      have kk : ∀ (z : Int) H', But p H H' → Pen H' p (B + 1) → Q (.int (z.fmod n)) H' := fun z H' b q => k _ H' (fmod_in h0) b q
      have P2 : ∀ H', (∃ r, H' p = some (.dK (penD c (st + 1) r))) → H' c = some (.lst (ns.map V.int)) → Pen H' p (B + 1) := fun H' ⟨r, e⟩ e' => ⟨c, ns, st + 1, r, e, e', hl, by omega, by omega⟩
      refine ite2 (fun hne => ?_) (fun _ => ?_)
      focus
        have hpos : 0 < ns.length := by
          cases ns with
          | nil => exact absurd hne (by decide)
          | cons a r => exact Nat.succ_pos _
        have hm := fmod_in (a := st) (b := (ns.length : Int)) (by omega)
        have hi : ∃ z, atI (ns.map V.int) (st.fmod ((ns.map V.int).length : Int)) = some (.int z) := by
          rw [List.length_map]
          obtain ⟨j, hj⟩ := Int.eq_ofNat_of_zero_le hm.1
          have hj2 : j < ns.length := by omega
          refine ⟨ns[j], ?_⟩
          rw [hj, atI_nat (by rw [List.getElem?_map, List.getElem?_eq_getElem hj2]; rfl)]
        obtain ⟨z, hz⟩ := hi
        refine ⟨_, rfl, p, _, rfl, dg_c hp2, _, rfl, .inl ⟨_, rfl, _, rfl, p, _, rfl, dg_c hp2, c, _, rfl, .inl (SqL.of hc2), _, _, rfl, rfl, (by rw [List.length_map]; omega), c, _, _, _, rfl, rfl, SqL.of hc2, hz, ?_⟩⟩
        clear hz hm hne hpos
      all_goals
        refine ⟨_, rfl, _, rfl, p, _, rfl, dg_c hp2, c, _, rfl, .inl (SqL.of hc2), _, _, rfl, rfl, _, rfl, ?_⟩
        refine ite2 (fun _ => ?_) (fun _ => ?_)
        focus
          refine ⟨_, rfl, _, _, rfl, rfl, cp, _, _, rfl, rfl, _, rfl, ?_⟩
          refine ite2 (fun _ => ?_) (fun _ => ?_)
          focus
            refine ⟨_, rfl, _, _, rfl, rfl, cp, _, _, rfl, rfl, _, rfl, _, _, rfl, rfl, dz _, _, rfl, p, _, rfl, dp_r hp2, ?_⟩
            refine ⟨_, rfl, _, _, rfl, rfl, cp, _, _, rfl, rfl, .inl ⟨_, rfl, _, rfl, _, _, rfl, rfl, n0, ?_⟩⟩
            exact kk _ _ (b2.upd hp2) (P2 _ ⟨_, upd_same⟩ (by rw [upd_ne npc.symm]; exact hc2))
        rotate_left
        focus
          refine iteF ?_
        all_goals
          refine ⟨_, rfl, .inl ⟨_, rfl, _, _, rfl, rfl, nzA, _, _, rfl, rfl, .inr ⟨by decide, by decide⟩, ?_⟩⟩
          refine ⟨_, rfl, _, rfl, _, _, rfl, rfl, .inl ⟨by decide, by decide⟩, _, rfl, _, _, rfl, rfl, .inr ⟨by omega, by omega⟩, _, _, rfl, rfl, ?_⟩
          refine ⟨_, rfl, _, _, rfl, rfl, .inl ⟨by decide, by decide⟩, _, _, rfl, rfl, _, _, rfl, rfl, .inl ⟨_, rfl, _, _, rfl, rfl, nzB, ?_⟩⟩
          refine ⟨_, rfl, _, rfl, _, _, rfl, rfl, _, _, rfl, rfl, .inl (bB _), .inl ⟨_, rfl, _, _, rfl, rfl, nzC, ?_⟩⟩
          refine ⟨_, rfl, _, rfl, _, _, rfl, rfl, .inl (bC _), _, rfl, _, _, rfl, rfl, .inl ⟨by decide, by decide⟩, _, _, rfl, rfl, .inl ⟨_, rfl, _, _, rfl, rfl, nzD, ?_⟩⟩
          refine ⟨_, _, rfl, rfl, ⟨by decide, by decide⟩, .inl ⟨_, rfl, _, rfl, _, _, rfl, rfl, n0, ?_⟩⟩
          exact kk _ _ b2 (P2 _ ⟨_, hp2⟩ hc2)
end
end AW

set_option linter.all false
set_option maxRecDepth 100000
set_option maxHeartbeats 8000000
namespace AW
open PySem PySem.Spec PyProof.Rows L2 Fewest
variable [Tbs]
section
variable {P : Program} {w : World} {K : PySem.W.Frag} {mg : Str → Option Value} {base : Heap}
theorem ne_of_dec {a b : Int} (h : (!decide (a = b)) = true) : ¬ a = b := by simpa using h
theorem eq_of_dec {a b : Int} (h : (!decide (a = b)) = false) : a = b := by simpa using h
theorem dvg {i j : Int} (h : j ≠ 0) (b : Bd 9000 j) : CDivG i j := by
  refine ⟨h, ?_⟩
  unfold Bd at b
  exact PySem.Flt.log2_lt_of (by decide) b
def pr_Place_mul (T : Tx K mg) : Pr := fun ds B k e => ∃ x y a x' y' a', ds = [pl T x y a, pl T x' y' a'] ∧ CMulW x y' ∧ k (pl T (x + x') (y + y') (a + a' + x * y')) B
theorem okD_Place_mul (T : Tx K mg) : FnOk P w K mg base (L2.CX P w) 6 T.a_Place_mul T.d_Place_mul P_Place_mul (spD K (pr_Place_mul T)) := by
  refine T.F_Place_mul.okX sc_Place_mul (spD_len fun ds B k e h => by obtain ⟨x, y, a, x', y', a', rfl, c, hk⟩ := h; rfl) (fun cdv A outer s H vs Q E hr h => ?_)
  have G_Place_init : FnOk P w K mg base (L2.CX P w) _ _ _ _ _ := okD_Place_init T
  have G_check_place : FnOk P w K mg base (L2.CX P w) _ _ _ _ _ := okD_check_place T
  obtain ⟨G, ds, B, k, e, hs, hR, ⟨x, y, a, x', y', a', rfl, c, hk⟩, hK, hX⟩ := h
  refine ⟨_, (pss_cons (ps_expr (pe_call G_check_place (hr.mono (by decide)) (by rfl) T.g_check_place T.F_check_place.kp T.b_check_place .nil passL (pa_cons (pv 1) pa_nil)))
 (pss_one (ps_ret (pe_make T.M_Place G_Place_init (hr.mono (by decide)) (by rfl) T.g_C_Place T.b_Place_init .nil passL (pa_cons (pe_op op_add (pe_fld (pv 0) rfl) (pe_fld (pv 1) rfl)) (pa_cons (pe_op op_add (pe_fld (pv 0) rfl) (pe_fld (pv 1) rfl)) (pa_cons (pe_op op_add (pe_op op_add (pe_fld (pv 0) rfl) (pe_fld (pv 1) rfl)) (pe_op op_mulW (pe_fld (pv 0) rfl) (pe_fld (pv 1) rfl))) pa_nil))))))), run_body (ρ := [some (pl T x y a), some (pl T x' y' a')]) hs hR hK hX rfl ?_⟩
  refine ws_seq (ws_drop (we_call (wa_cons (we_var rfl (wa_nil ⟨_, rfl, .inl ⟨_, _, _, rfl, ?_⟩⟩)))))
  refine (ws_ret (we_place T (wa_cons (we_op (we_fx T (we_var rfl ⟨_, _, _, rfl, (we_fx T (we_var rfl ⟨_, _, _, rfl, (ro_i0 (wa_cons (we_op (we_fy T (we_var rfl ⟨_, _, _, rfl, (we_fy T (we_var rfl ⟨_, _, _, rfl, (ro_i0 (wa_cons (we_op (we_op (we_fa T (we_var rfl ⟨_, _, _, rfl, (we_fa T (we_var rfl ⟨_, _, _, rfl, (ro_i0 (we_op (we_fx T (we_var rfl ⟨_, _, _, rfl, (we_fy T (we_var rfl ⟨_, _, _, rfl, (ro_i c (ro_i0 (wa_nil ⟨_, _, _, rfl, ?_⟩)))⟩))⟩))))⟩))⟩))))))⟩))⟩)))))⟩))⟩))))))
  exact hk
def pr_Place_invert (T : Tx K mg) : Pr := fun ds B k e => ∃ x y a, ds = [pl T x y a] ∧ CMulW x y ∧ k (pl T (-x) (-y) (x * y - a)) B
theorem okD_Place_invert (T : Tx K mg) : FnOk P w K mg base (L2.CX P w) 6 T.a_Place_invert T.d_Place_invert P_Place_invert (spD K (pr_Place_invert T)) := by
  refine T.F_Place_invert.okX sc_Place_invert (spD_len fun ds B k e h => by obtain ⟨x, y, a, rfl, c, hk⟩ := h; rfl) (fun cdv A outer s H vs Q E hr h => ?_)
  have G_Place_init : FnOk P w K mg base (L2.CX P w) _ _ _ _ _ := okD_Place_init T
  obtain ⟨G, ds, B, k, e, hs, hR, ⟨x, y, a, rfl, c, hk⟩, hK, hX⟩ := h
  refine ⟨_, (pss_one (ps_ret (pe_make T.M_Place G_Place_init (hr.mono (by decide)) (by rfl) T.g_C_Place T.b_Place_init .nil passL (pa_cons (pe_un un_neg (pe_fld (pv 0) rfl)) (pa_cons (pe_un un_neg (pe_fld (pv 0) rfl)) (pa_cons (pe_op op_sub (pe_op op_mulW (pe_fld (pv 0) rfl) (pe_fld (pv 0) rfl)) (pe_fld (pv 0) rfl)) pa_nil)))))), run_body (ρ := [some (pl T x y a)]) hs hR hK hX rfl ?_⟩
  refine (ws_ret (we_place T (wa_cons (we_neg (we_fx T (we_var rfl ⟨_, _, _, rfl, ⟨_, rfl, (wa_cons (we_neg (we_fy T (we_var rfl ⟨_, _, _, rfl, ⟨_, rfl, (wa_cons (we_op (we_op (we_fx T (we_var rfl ⟨_, _, _, rfl, (we_fy T (we_var rfl ⟨_, _, _, rfl, (ro_i c (we_fa T (we_var rfl ⟨_, _, _, rfl, (ro_i0 (wa_nil ⟨_, _, _, rfl, ?_⟩))⟩)))⟩))⟩)))))⟩⟩))))⟩⟩))))))
  exact hk
def pr_is_whole (T : Tx K mg) : Pr := fun ds B k e => ∃ d, ds = [d] ∧ ((∃ i : Int, d = .int i ∧ k (.bl (decide (0 ≤ i))) B) ∨ (plainD d = true ∧ intD d = false ∧ k (.bl false) B))
theorem okD_is_whole (T : Tx K mg) : FnOk P w K mg base (L2.CX P w) 2 T.a_is_whole T.d_is_whole P_is_whole (spD K (pr_is_whole T)) := by
  refine T.F_is_whole.okX sc_is_whole (spD_len fun ds B k e h => by obtain ⟨d, rfl, hk⟩ := h; rfl) (fun cdv A outer s H vs Q E hr h => ?_)
  have G_is_integer : FnOk P w K mg base (L2.CX P w) _ _ _ _ _ := okD_is_integer T
  obtain ⟨G, ds, B, k, e, hs, hR, ⟨d, rfl, hk⟩, hK, hX⟩ := h
  refine ⟨_, (pss_one (ps_ret (pe_and (pe_call G_is_integer (hr.mono (by decide)) (by rfl) T.g_is_integer T.F_is_integer.kp T.b_is_integer .nil passL (pa_cons (pv 0) pa_nil)) (pe_one (pe_cmpR op_ge (pv 0) pe_int (nomark _)))))), run_body (ρ := [some d]) hs hR hK hX rfl ?_⟩
  rcases hk with ⟨i, rfl, hk⟩ | ⟨pd, hi, hk⟩
  · exact ws_ret <| we_and <| we_call <| wa_cons <| we_var rfl <| wa_nil ⟨_, rfl, .inl rfl, ⟨_, rfl, fun _ => we_op <| we_var rfl <| we_int <| ro_b0 hk, fun h => nomatch h⟩⟩
  · exact ws_ret <| we_and <| we_call <| wa_cons <| we_var rfl <| wa_nil ⟨_, rfl, .inl pd, ⟨_, rfl, (fun h => by rw [hi] at h; cases h), fun _ => hk⟩⟩
end
end AW

set_option linter.all false
set_option maxRecDepth 100000
set_option maxHeartbeats 8000000
namespace AW
open PySem PySem.Spec PyProof.Rows L2
section
variable {P : Program} {w : World} {K : PySem.W.Frag} {mg : Str → Option Value} {base : Heap}
/-- the whole root, by what it is -/
def rRoot : List V → Hp → VK → Prop := fun vs H Q => ∃ a : Int, vs = [.int a] ∧ 0 ≤ a ∧ Bd 12000 a ∧ ∀ r : Int, 0 ≤ r → r * r ≤ a → a < (r + 1) * (r + 1) → Q (.int r) H
theorem Bd.one {k : Nat} (h : 1 ≤ k) : Bd k 1 := by
  show 1 < 2 ^ k
  exact Nat.lt_of_lt_of_le (by decide : 1 < 2 ^ 1) (Nat.pow_le_pow_right (by decide) h)
theorem cr_root {X : Cx} : CallR X (.builtin "math.isqrt") rRoot := by
  intro pins s σ H vs us Q I r h
  obtain ⟨a, rfl, a0, hb, q⟩ := h
  obtain ⟨u, rfl, t, rfl⟩ := vals1 r
  have l : a.toNat.log2 ≤ 12000 := by
    refine PySem.W.mg_log ?_
    have : a.natAbs = a.toNat := by omega
    rw [← this]
    exact Nat.lt_trans hb (Nat.pow_lt_pow_right (by decide) (by decide))
  have sp := Float64.isqrt_spec a.toNat
  refine call_function_meets PySem.W.MGF.kind_isqrt PySem.W.MGF.plain_isqrt PySem.W.MGF.entry_isqrt (PySem.W.MGF.args_isqrt _) (PySem.W.mg_run_isqrt a t (by omega) (by omega) (by omega)).meets ?_
  refine ⟨.int _, H, I.tok _, ⟨_, rfl⟩, q _ (by omega) ?_ ?_⟩
  · have := sp.1
    have e : ((Float64.isqrt a.toNat * Float64.isqrt a.toNat : Nat) : Int) ≤ a := by omega
    rw [Int.natCast_mul] at e
    exact e
  · have e : a < (((Float64.isqrt a.toNat + 1) * (Float64.isqrt a.toNat + 1) : Nat) : Int) := by omega
    rw [Int.natCast_mul, Int.natCast_add] at e
    exact e
theorem lg {b : Int} (h : Bd 8000 b) : b.natAbs.log2 < 9000 := by have := PySem.W.mg_log (k := 8000) (Nat.lt_trans h (Nat.pow_lt_pow_right (by decide) (by decide))); omega
def sp_quotient_up (T : Tx K mg) : Sp := fun vs H Q E => ∃ a b : Int, vs = [.int a, .int b] ∧ 0 < b ∧ Bd 8000 a ∧ Bd 8000 b ∧ Q (.int (-((-a) / b))) H
theorem ok_quotient_up (T : Tx K mg) : FnOk P w K mg base (L2.CX P w) 1 T.a_quotient_up T.d_quotient_up P_quotient_up (sp_quotient_up T) := by
  refine T.F_quotient_up.okX sc_quotient_up (fun vs H Q E h => ?_) (fun cdv A outer s H vs Q E hr h => ?_)
  · obtain ⟨a, b, rfl, _⟩ := h
    rfl
  · obtain ⟨a, b, rfl, b0, ha, hb, k⟩ := h
    refine ⟨_, (pss_one (ps_ret (pe_un un_neg (pe_op op_fdivW (pe_un un_neg (pv 0)) (pv 1))))), ?_⟩
    refine ⟨_, rfl, _, rfl, _, rfl, _, _, rfl, rfl, ⟨b0, lg hb⟩, _, rfl, k⟩
def sp_half_outline (T : Tx K mg) : Sp := fun vs H Q E => ∃ a : Int, vs = [.int a] ∧ 0 < a ∧ Bd 8000 a ∧ ∀ h : Int, Fewest.half a h → Q (.int h) H
theorem ok_half_outline (T : Tx K mg) : FnOk P w K mg base (L2.CX P w) 1 T.a_half_outline T.d_half_outline P_half_outline (sp_half_outline T) := by
  refine T.F_half_outline.okX sc_half_outline (fun vs H Q E h => ?_) (fun cdv A outer s H vs Q E hr h => ?_)
  · obtain ⟨a, rfl, _⟩ := h
    rfl
  · obtain ⟨a, rfl, a0, ha, k⟩ := h
    refine ⟨_, (pss_one (ps_ret (pe_op op_add (pe_callBfun cr_root (by rfl) T.mi_isqrt (pa_cons (pe_op op_sub (pe_op op_mul pe_int (pv 0)) pe_int) pa_nil)) pe_int))), ?_⟩
    have b4 : Bd 12000 (4 * a - 1) := ((Bd.mul (k := 3) (m := 8000) (by show (4 : Int).natAbs < 2 ^ 3; decide) ha).sub (Bd.one (k := 8003) (by decide))).mono (by decide)
    refine ⟨_, rfl, _, _, rfl, rfl, .inl ⟨by decide, by decide⟩, _, _, rfl, rfl, _, rfl, by omega, b4, fun r r0 h1 h2 => ?_⟩
    exact ⟨_, _, rfl, rfl, k _ (Fewest.half_of r0 h1 h2)⟩
theorem cmw {i j : Int} (h : Bd 8000 i) (g : Bd 8000 j) : CMulW i j := by have := lg h; have := lg g; unfold CMulW; omega
theorem ab_if (x : Int) : (if x < 0 then -x else x) = Fewest.ab x := by unfold Fewest.ab; split <;> omega
theorem Bd.ab {k : Nat} {x : Int} (h : Bd k x) : Bd k (Fewest.ab x) := by unfold Bd Fewest.ab at *; omega
def sp_fewest_steps (T : Tx K mg) : Sp := fun vs H Q E => ∃ (p : Addr) (x y a : Int), vs = [.ref p] ∧ PlAt T H p x y a ∧ Bd 3000 x ∧ Bd 3000 y ∧ Bd 3000 a ∧ ∀ n : Int, Fewest.St x y a n → Q (.int n) H
theorem ok_fewest_steps (T : Tx K mg) : FnOk P w K mg base (L2.CX P w) 2 T.a_fewest_steps T.d_fewest_steps P_fewest_steps (sp_fewest_steps T) := by
  have G_quotient_up : FnOk P w K mg base (L2.CX P w) 1 _ _ _ _ := ok_quotient_up T
  have G_half_outline : FnOk P w K mg base (L2.CX P w) 1 _ _ _ _ := ok_half_outline T
  refine T.F_fewest_steps.okX sc_fewest_steps (fun vs H Q E h => ?_) (fun cdv A outer s H vs Q E hr h => ?_)
  · obtain ⟨p, x, y, a, rfl, _⟩ := h
    rfl
  · obtain ⟨p, x, y, a, rfl, hp, bx, by', ba, k⟩ := h
    refine ⟨_, (pss_cons (ps_set (i := 1) sc_fewest_steps.nd rfl (.inl rfl) (pe_callB (call_max2 rfl) (by rfl) T.n_max (by decide +kernel) (pa_cons (pe_callB call_abs (by rfl) T.n_abs (by decide +kernel) (pa_cons (pe_fld (pv 0) rfl) pa_nil)) (pa_cons (pe_callB call_abs (by rfl) T.n_abs (by decide +kernel) (pa_cons (pe_fld (pv 0) rfl) pa_nil)) pa_nil))))
 (pss_cons (ps_set (i := 2) sc_fewest_steps.nd rfl (.inl rfl) (pe_callB (call_min2 rfl) (by rfl) T.n_min (by decide +kernel) (pa_cons (pe_callB call_abs (by rfl) T.n_abs (by decide +kernel) (pa_cons (pe_fld (pv 0) rfl) pa_nil)) (pa_cons (pe_callB call_abs (by rfl) T.n_abs (by decide +kernel) (pa_cons (pe_fld (pv 0) rfl) pa_nil)) pa_nil))))
 (pss_cons (ps_set (i := 3) sc_fewest_steps.nd rfl (.inl rfl) (pe_op op_fdivW (pe_op op_add (pe_callB call_abs (by rfl) T.n_abs (by decide +kernel) (pa_cons (pe_op op_sub (pe_op op_mul pe_int (pe_fld (pv 0) rfl)) (pe_op op_mulW (pe_fld (pv 0) rfl) (pe_fld (pv 0) rfl))) pa_nil)) (pe_op op_mulW (pv 1) (pv 2))) pe_int))
 (pss_cons (ps_if (pt_cmpR op_le (pv 3) (pe_op op_mulW (pv 1) (pv 2)) (nomark _))
 (pss_one (ps_ret (pe_op op_add (pv 1) (pv 2))))
 pss_nil)
 (pss_cons (ps_if (pt_cmpR op_le (pv 3) (pe_op op_mulW (pv 1) (pv 1)) (nomark _))
 (pss_one (ps_ret (pe_op op_sub (pe_op op_add (pe_op op_mul pe_int (pe_call G_quotient_up (hr.mono (by decide)) (by rfl) T.g_quotient_up T.F_quotient_up.kp T.b_quotient_up .nil passL (pa_cons (pv 3) (pa_cons (pv 1) pa_nil)))) (pv 1)) (pv 2))))
 pss_nil)
 (pss_one (ps_ret (pe_op op_sub (pe_op op_sub (pe_op op_mul pe_int (pe_call G_half_outline (hr.mono (by decide)) (by rfl) T.g_half_outline T.F_half_outline.kp T.b_half_outline .nil passL (pa_cons (pv 3) pa_nil))) (pv 1)) (pv 2))))))))), ?_⟩
    obtain ⟨dx, e⟩ := id hp
    refine ⟨_, rfl, p, _, dx, _, _, rfl, e, T.cl_Place, T.na_Place_x, rfl, _, rfl, _, rfl, p, _, dx, _, _, rfl, e, T.cl_Place, T.na_Place_y, rfl, _, rfl, _, _, rfl, ?_⟩
    refine ⟨_, rfl, p, _, dx, _, _, rfl, e, T.cl_Place, T.na_Place_x, rfl, _, rfl, _, rfl, p, _, dx, _, _, rfl, e, T.cl_Place, T.na_Place_y, rfl, _, rfl, _, _, rfl, ?_⟩
    rw [ab_if, ab_if]
    generalize hX : Fewest.ab x = X
    generalize hY : Fewest.ab y = Y
    obtain ⟨L, S, hL, hS, hLS⟩ : ∃ L S : Int, (if Y > X then Y else X) = L ∧ (if Y < X then Y else X) = S ∧ ((L = X ∧ S = Y ∧ Y ≤ X) ∨ (L = Y ∧ S = X ∧ X ≤ Y)) := by
      refine ⟨_, _, rfl, rfl, ?_⟩
      split <;> split <;> omega
    rw [hL, hS]
    have bX : Bd 3000 X := by rw [← hX]; exact bx.ab
    have bY : Bd 3000 Y := by rw [← hY]; exact by'.ab
    have bL : Bd 3000 L := by rcases hLS with ⟨e1, _⟩ | ⟨e1, _⟩ <;> rw [e1] <;> assumption
    have bS : Bd 3000 S := by rcases hLS with ⟨_, e1, _⟩ | ⟨_, e1, _⟩ <;> rw [e1] <;> assumption
    have mL : Bd 8000 L := bL.mono (by decide)
    have mS : Bd 8000 S := bS.mono (by decide)
    refine ⟨_, rfl, p, _, dx, _, _, rfl, e, T.cl_Place, T.na_Place_area, rfl, _, _, rfl, rfl, .inl ⟨by decide, by decide⟩, ?_⟩
    refine ⟨_, rfl, p, _, dx, _, _, rfl, e, T.cl_Place, T.na_Place_x, rfl, _, rfl, p, _, dx, _, _, rfl, e, T.cl_Place, T.na_Place_y, rfl, _, _, rfl, rfl, cmw (bx.mono (by decide)) (by'.mono (by decide)), ?_⟩
    refine ⟨_, _, rfl, rfl, _, rfl, _, rfl, _, rfl, _, _, rfl, rfl, cmw mL mS, _, _, rfl, rfl, _, _, rfl, rfl, ⟨by decide, by decide⟩, ?_⟩
    rw [ab_if]
    have bU : Bd 7000 (Fewest.ab (2 * a - x * y)) := (((Bd.mul (k := 2) (m := 3000) (by show (2 : Int).natAbs < 2 ^ 2; decide) ba).mono (show 2 + 3000 ≤ 6000 by decide)).sub (bx.mul by')).ab.mono (by decide)
    have U0 : 0 ≤ Fewest.ab (2 * a - x * y) := by unfold Fewest.ab; omega
    have par : (Fewest.ab (2 * a - x * y) + X * Y) % 2 = 0 := by
      have e1 : X * Y = Fewest.ab (x * y) := by rw [← hX, ← hY]; unfold Fewest.ab; rw [Int.natAbs_mul, Int.natCast_mul]
      rw [e1]
      unfold Fewest.ab
      omega
    have X0 : 0 ≤ X := by rw [← hX]; unfold Fewest.ab; omega
    have Y0 : 0 ≤ Y := by rw [← hY]; unfold Fewest.ab; omega
    have LSXY : L * S = X * Y := by
      rcases hLS with ⟨e1, e2, _⟩ | ⟨e1, e2, _⟩
      · rw [e1, e2]
      · rw [e1, e2, Int.mul_comm]
    have fin : ∀ n : Int, Fewest.Least L S (Fewest.ab (2 * a - x * y)) n → Q (.int n) H := fun n h => by
      refine k n ?_
      unfold Fewest.St
      rw [hX, hY]
      rcases hLS with ⟨e1, e2, _⟩ | ⟨e1, e2, _⟩
      · rw [e1, e2] at h; exact h
      · rw [e1, e2] at h; exact h.swap
    have hSL : S ≤ L ∧ 0 ≤ S := by omega
    generalize hU : Fewest.ab (2 * a - x * y) = U at bU U0 par fin ⊢
    obtain ⟨AA, hA⟩ : ∃ AA : Int, (U + L * S) / 2 = AA := ⟨_, rfl⟩
    have hA2 : 2 * AA = U + L * S := by rw [LSXY] at hA ⊢; omega
    have bA : Bd 8000 AA := by
      have b1 : Bd 7001 (U + L * S) := bU.add ((bL.mul bS).mono (by decide))
      have b2 : Bd 7001 AA := by unfold Bd at *; omega
      exact b2.mono (by decide)
    rw [show (fun i j : Int => V.int (i / j)) (U + L * S) 2 = V.int AA from congrArg V.int hA]
    refine ⟨_, rfl, _, rfl, _, rfl, _, _, rfl, rfl, cmw mL mS, _, _, rfl, rfl, _, rfl, ?_⟩
    refine ite2 (fun h1 => ?_) (fun h1 => ?_)
    · exact ⟨_, rfl, _, rfl, _, _, rfl, rfl, fin _ (Fewest.least1 hA2 (of_decide_eq_true h1))⟩
    · have h1 : L * S < AA := by have := of_decide_eq_false (Bool.eq_false_iff.mpr h1); omega
      refine ⟨_, rfl, _, rfl, _, rfl, _, _, rfl, rfl, cmw mL mL, _, _, rfl, rfl, _, rfl, ?_⟩
      have LS0 : 0 ≤ L * S := by rw [LSXY]; exact Int.mul_nonneg X0 Y0
      refine ite2 (fun h2 => ?_) (fun h2 => ?_)
      · have h2 := of_decide_eq_true h2
        have L0 : 0 < L := by
          rcases (show L = 0 ∨ 0 < L by omega) with z | z
          · subst z; omega
          · exact z
        refine ⟨_, rfl, _, rfl, AA, L, rfl, L0, bA, mL, _, _, rfl, rfl, .inl ⟨by decide, by decide⟩, _, rfl, _, _, rfl, rfl, _, rfl, _, _, rfl, rfl, fin _ (Fewest.least2 hSL.2 L0 hA2 h1 h2 (Fewest.up_ex L0).1 (Fewest.up_ex L0).2)⟩
      · have h2 : L * L < AA := by have := of_decide_eq_false (Bool.eq_false_iff.mpr h2); omega
        refine ⟨_, rfl, AA, rfl, by omega, bA, fun h hh => ?_⟩
        refine ⟨_, _, rfl, rfl, .inl ⟨by decide, by decide⟩, _, rfl, _, _, rfl, rfl, _, rfl, _, _, rfl, rfl, fin _ (Fewest.least3 hSL.2 hSL.1 hA2 h2 hh)⟩
end
end AW

set_option linter.all false
set_option maxRecDepth 100000
set_option maxHeartbeats 8000000
namespace AW
open PySem PySem.Spec PyProof.Rows L2
section
variable {P : Program} {w : World} {K : PySem.W.Frag} {mg : Str → Option Value} {base : Heap}
/-- the best box: a new pair -/
def sp_best_sides (T : Tx K mg) : Sp := fun vs H Q E => ∃ X Y s : Int, vs = [.int X, .int Y, .int s] ∧ ∀ t H', Same H H' → H' t = some (.tup [.int (Fewest.bestW X Y s), .int (X + Y + s - Fewest.bestW X Y s)]) → Q (.ref t) H'
theorem bestW_eq (X Y s : Int) : (if X + s < (if X > (X + Y + s) / 2 then X else (X + Y + s) / 2) then X + s else (if X > (X + Y + s) / 2 then X else (X + Y + s) / 2)) = Fewest.bestW X Y s := by
  unfold Fewest.bestW
  split <;> split <;> omega
theorem ok_best_sides (T : Tx K mg) : FnOk P w K mg base (L2.CX P w) 1 T.a_best_sides T.d_best_sides P_best_sides (sp_best_sides T) := by
  refine T.F_best_sides.okX sc_best_sides (fun vs H Q E h => ?_) (fun cdv A outer s H vs Q E hr h => ?_)
  · obtain ⟨X, Y, sp, rfl, _⟩ := h
    rfl
  · obtain ⟨X, Y, sp, rfl, k⟩ := h
    refine ⟨_, (pss_cons (ps_set (i := 3) sc_best_sides.nd rfl (.inl rfl) (pe_op op_add (pe_op op_add (pv 0) (pv 1)) (pv 2)))
 (pss_cons (ps_set (i := 4) sc_best_sides.nd rfl (.inl rfl) (pe_callB (call_min2 rfl) (by rfl) T.n_min (by decide +kernel) (pa_cons (pe_callB (call_max2 rfl) (by rfl) T.n_max (by decide +kernel) (pa_cons (pe_op op_fdivW (pv 3) pe_int) (pa_cons (pv 0) pa_nil))) (pa_cons (pe_op op_add (pv 0) (pv 2)) pa_nil))))
 (pss_one (ps_ret (pe_tup (pa_cons (pv 4) (pa_cons (pe_op op_sub (pv 3) (pv 4)) pa_nil))))))), ?_⟩
    refine ⟨_, rfl, _, rfl, _, _, rfl, rfl, _, rfl, _, _, rfl, rfl, ?_⟩
    refine ⟨_, rfl, _, _, rfl, rfl, ⟨by decide, by decide⟩, _, rfl, _, _, rfl, _, rfl, _, rfl, _, _, rfl, rfl, _, _, rfl, ?_⟩
    rw [bestW_eq]
    exact ⟨_, rfl, _, rfl, _, rfl, _, _, rfl, rfl, (by show 2 ≤ sizeLine; decide), fun t nt => k t _ (Same.laid nt) upd_same⟩
/-- the steps that are left for ways there and back, halved; None where there are none -/
def sp_spare_steps (T : Tx K mg) : Sp := fun vs H Q E => ∃ x y n : Int, vs = [.int x, .int y, .int n] ∧
  ((n < Fewest.ab x + Fewest.ab y ∨ (n - Fewest.ab x - Fewest.ab y) % 2 = 1) → Q .non H) ∧ (∀ s : Int, 0 ≤ s → n - Fewest.ab x - Fewest.ab y = 2 * s → Q (.int s) H)
theorem ok_spare_steps (T : Tx K mg) : FnOk P w K mg base (L2.CX P w) 1 T.a_spare_steps T.d_spare_steps P_spare_steps (sp_spare_steps T) := by
  refine T.F_spare_steps.okX sc_spare_steps (fun vs H Q E h => ?_) (fun cdv A outer s H vs Q E hr h => ?_)
  · obtain ⟨x, y, n, rfl, _⟩ := h
    rfl
  · obtain ⟨x, y, n, rfl, k1, k2⟩ := h
    refine ⟨_, (pss_cons (ps_set (i := 3) sc_spare_steps.nd rfl (.inl rfl) (pe_op op_sub (pe_op op_sub (pv 2) (pe_callB call_abs (by rfl) T.n_abs (by decide +kernel) (pa_cons (pv 0) pa_nil))) (pe_callB call_abs (by rfl) T.n_abs (by decide +kernel) (pa_cons (pv 1) pa_nil))))
 (pss_cons (ps_if (PW.pt (pw_or (pt_cmpR op_lt (pv 3) pe_int (nomark _)) (pw_or1 (pt_cmpR op_eq (pe_op op_andM (pv 3) pe_int) pe_int (nomark _)))))
 (pss_one (ps_ret pe_non))
 pss_nil)
 (pss_one (ps_ret (pe_op op_fdivW (pv 3) pe_int))))), ?_⟩
    refine ⟨_, rfl, _, rfl, _, rfl, _, _, rfl, rfl, _, rfl, _, rfl, _, _, rfl, rfl, ?_⟩
    rw [ab_if, ab_if]
    obtain ⟨m, hm⟩ : ∃ m : Int, n - Fewest.ab x - Fewest.ab y = m := ⟨_, rfl⟩
    rw [show (fun i j : Int => V.int (i - j)) (n - Fewest.ab x) (Fewest.ab y) = V.int m from congrArg V.int hm]
    rw [hm] at k1 k2
    refine ⟨_, rfl, _, _, rfl, rfl, _, rfl, ?_⟩
    refine ite2 (fun c => iteT (k1 (.inl (by have := of_decide_eq_true c; omega)))) (fun c => ?_)
    have c := of_decide_eq_false (Bool.eq_false_iff.mpr c)
    refine ⟨_, rfl, m, 1, rfl, congrArg V.int (by decide), rfl, _, rfl, ?_⟩
    have e2 : (2 : Int) ^ 1 = 2 := by decide
    rw [e2]
    refine ite2 (fun d => k1 (.inr ?_)) (fun d => ?_)
    · have := of_decide_eq_true d
      injection this
    · have d := of_decide_eq_false (Bool.eq_false_iff.mpr d)
      have d : m % 2 ≠ 1 := fun z => d (congrArg V.int z)
      exact ⟨_, rfl, _, _, rfl, rfl, ⟨by decide, by decide⟩, k2 _ (by omega) (by omega)⟩
end
end AW

set_option linter.all false
set_option maxRecDepth 100000
set_option maxHeartbeats 8000000
namespace AW
open PySem PySem.Spec PyProof.Rows L2 Fewest
variable [Tbs]
abbrev Rn := Str × Int
abbrev prD (p : Rn) : D := .tup [.str p.1, .int p.2]
abbrev prL (p : Rn) : D := .lst [.str p.1, .int p.2]
/-- a pair, as a list or a tuple -/
def prX (c : Bool) (p : Rn) : D := if c = true then prL p else prD p
theorem wg_pr {K : PySem.W.Frag} (c : Bool) {gs : TGs} {p : Rn} {ρ : List (Option D)} {B : Int} {k : KE'} (h : Wgs K gs [.str p.1, .int p.2] ρ B k) : Wg K (gOr (gTup K 2 gs) (gUnl K 2 gs)) (prX c p) ρ B k := by
  cases c with
  | false => exact wg_orL (wg_tup rfl h)
  | true => exact wg_orR (wg_unl rfl h)
/-- one pair more: what is told, the letter that runs, its count -/
def jStep (s : List Rn × Str × Int) (p : Rn) : List Rn × Str × Int :=
  if p.2 = 0 then s else if p.1 = s.2.1 then (s.1, s.2.1, s.2.2 + p.2) else (if s.2.2 > 0 then s.1 ++ [(s.2.1, s.2.2)] else s.1, p.1, p.2)
def jEnd (s : List Rn × Str × Int) : List Rn := if s.2.2 > 0 then s.1 ++ [(s.2.1, s.2.2)] else s.1
def joinF (ps : List Rn) : List Rn := jEnd (ps.foldl jStep ([], "", 0))
theorem jStep_len (s : List Rn × Str × Int) (p : Rn) : (jStep s p).1.length ≤ s.1.length + 1 := by
  unfold jStep
  repeat' split
  all_goals simp
theorem jFold_len : ∀ (ps : List Rn) (s : List Rn × Str × Int), (ps.foldl jStep s).1.length ≤ s.1.length + ps.length
  | [], s => Nat.le_refl _
  | p :: ps, s => by
    rw [List.foldl_cons, List.length_cons]
    have := jFold_len ps (jStep s p)
    have := jStep_len s p
    omega
section
variable {P : Program} {w : World} {K : PySem.W.Frag} {mg : Str → Option Value} {base : Heap}
def pr_joined_runs (T : Tx K mg) : Pr := fun ds B k e => ∃ (ps : List Rn) (bq c : Bool), ds = [seqD bq (ps.map (prX c))] ∧ ps.length ≤ 1000000 ∧ k (.tup ((joinF ps).map prD)) B
theorem okD_joined_runs (T : Tx K mg) : FnOk P w K mg base (L2.CX P w) 1 T.a_joined_runs T.d_joined_runs P_joined_runs (spD K (pr_joined_runs T)) := by
  refine T.F_joined_runs.okX sc_joined_runs (spD_len fun ds B k e h => by obtain ⟨ps, bq, c, rfl, hl, hk⟩ := h; rfl) (fun cdv A outer s H vs Q E hr h => ?_)
  obtain ⟨G, ds, B, k, e, hs, hR, ⟨ps, bq, c, rfl, hl, hk⟩, hK, hX⟩ := h
  refine ⟨_, (pss_cons (ps_set (i := 1) sc_joined_runs.nd rfl (.inl rfl) (pe_lst pa_nil))
 (pss_cons (ps_asg (pe_tup (pa_cons pe_str (pa_cons pe_int pa_nil))) (pg_or (pg_tup rfl (pgs_cons (pg_name (i := 2) sc_joined_runs.nd rfl (.inl rfl)) (pgs_cons (pg_name (i := 3) sc_joined_runs.nd rfl (.inl rfl)) pgs_nil))) (pg_unl rfl (pgs_cons (pg_name (i := 2) sc_joined_runs.nd rfl (.inl rfl)) (pgs_cons (pg_name (i := 3) sc_joined_runs.nd rfl (.inl rfl)) pgs_nil)))))
 (pss_cons (ps_for (passes_of rfl) rfl (pi_or (pi_list (pv 0)) (pi_tup (pv 0))) (pg_or (pg_tup rfl (pgs_cons (pg_name (i := 4) sc_joined_runs.nd rfl (.inl rfl)) (pgs_cons (pg_name (i := 5) sc_joined_runs.nd rfl (.inl rfl)) pgs_nil))) (pg_unl rfl (pgs_cons (pg_name (i := 4) sc_joined_runs.nd rfl (.inl rfl)) (pgs_cons (pg_name (i := 5) sc_joined_runs.nd rfl (.inl rfl)) pgs_nil))))
 (pss_cons (ps_if (pt_cmpR op_eq (pv 5) pe_int (nomark _))
 (pss_one ps_continue)
 pss_nil)
 (pss_cons (ps_if (pt_cmpR op_eq (pv 4) (pv 2) (nomark _))
 (pss_cons (ps_set (i := 3) sc_joined_runs.nd rfl (.inl rfl) (pe_op op_add (pv 3) (pv 5)))
 (pss_one ps_continue))
 pss_nil)
 (pss_cons (ps_if (pt_cmpR op_gt (pv 3) pe_int (nomark _))
 (pss_one (ps_expr (pe_bm PySem.F.plainAttrs_list PySem.F.slot_list_append PySem.F.type_list_append mt_append (pv 1) (pa_cons (pe_tup (pa_cons (pv 2) (pa_cons (pv 3) pa_nil))) pa_nil))))
 pss_nil)
 (pss_one (ps_par (i := 2) (j := 3) (by rfl) sc_joined_runs.nd rfl rfl (by decide) rfl rfl (pa_cons (pv 4) (pa_cons (pv 5) pa_nil)) (by rfl)))))))
 (pss_cons (ps_if (pt_cmpR op_gt (pv 3) pe_int (nomark _))
 (pss_one (ps_expr (pe_bm PySem.F.plainAttrs_list PySem.F.slot_list_append PySem.F.type_list_append mt_append (pv 1) (pa_cons (pe_tup (pa_cons (pv 2) (pa_cons (pv 3) pa_nil))) pa_nil))))
 pss_nil)
 (pss_one (ps_ret (pe_callTy call_tuple_of (by rfl) T.n_tuple (by decide +kernel) (pa_cons (pv 1) pa_nil)))))))), run_body (ρ := [some (seqD bq (ps.map (prX c))), none, none, none, none, none]) hs hR hK hX rfl ?_⟩
  have zL : 16000000 < sizeLine := by decide
  have z2 : 2 ≤ sizeLine := by decide
  refine wx_own <| wx_seq <| wx_newlist fun p => ?_
  refine wx_seq <| wx_ws <| ws_asg <| we_tup <| wa_cons <| we_str <| wa_cons <| we_int <| wa_nil ⟨Nat.le_of_ble_eq_true rfl, wg_orL <| wg_tup rfl <| wgs_cons <| wg_name <| wgs_cons <| wg_name <| wgs_nil ?_⟩
  refine wx_seq <| wx_for_seq bq (j := 0) rfl fun u => ⟨fun i ρ' O' B' => (∃ (o4 o5 : Option D) (s : List Rn × Str × Int), s = (ps.take i).foldl jStep ([], "", 0) ∧ ρ' = [some (.at_ u (seqD bq (ps.map (prX c)))), some (.val (.ref p)), some (.str s.2.1), some (.int s.2.2), o4, o5] ∧ O' = [(p, .list (s.1.map prD))]) ∧ B = B', ⟨⟨_, _, _, rfl, rfl, rfl⟩, rfl⟩, fun i ρ' O' B' hI => ?_, fun i d ρ' O' B' hd hI => ?_, fun ρ' O' B' hI => ?_⟩
  · obtain ⟨⟨o4, o5, s, _, rfl, _⟩, _⟩ := hI
    rfl
  · obtain ⟨⟨o4, o5, s, es, rfl, rfl⟩, rfl⟩ := hI
    rw [List.getElem?_map] at hd
    obtain ⟨q, hq, rfl⟩ := Option.map_eq_some_iff.mp hd
    have tk : (ps.take (i + 1)).foldl jStep ([], "", 0) = jStep s q := by
      rw [List.take_add_one, hq, Option.toList_some, List.foldl_append, ← es]; rfl
    have ls : s.1.length ≤ 1000000 := by
      have h1 := jFold_len (ps.take i) ([], "", 0)
      rw [← es, List.length_take] at h1
      have h1 : s.1.length ≤ 0 + min i ps.length := h1
      omega
    refine wg_pr c <| wgs_cons <| wg_name <| wgs_cons <| wg_name <| wgs_nil ?_
    refine wx_seq <| wx_ifT <| wt_test <| we_op <| we_var rfl <| we_int <| ro_eqI ⟨_, rfl, fun h1 => ?_, fun h1 => wx_next ?_⟩
    · have ej : jStep s q = s := if_pos (of_decide_eq_true h1)
      exact wx_ws <| ws_cont ⟨⟨_, _, s, by rw [tk, ej], rfl, rfl⟩, rfl⟩
    have h1 := of_decide_eq_false h1
    refine wx_seq <| wx_ifT <| wt_test <| we_op <| we_var rfl <| we_var rfl <| ro_eqS ⟨_, rfl, fun h2 => ?_, fun h2 => wx_next ?_⟩
    · have ej : jStep s q = (s.1, s.2.1, s.2.2 + q.2) := by unfold jStep; rw [if_neg h1, if_pos (of_decide_eq_true h2)]
      refine wx_seq <| wx_ws <| ws_set <| we_op <| we_var rfl <| we_var rfl <| ro_i0 ?_
      exact wx_ws <| ws_cont ⟨⟨_, _, (s.1, s.2.1, s.2.2 + q.2), by rw [tk, ej], rfl, rfl⟩, rfl⟩
    have h2 := of_decide_eq_false h2
    have ej : jStep s q = (if s.2.2 > 0 then s.1 ++ [(s.2.1, s.2.2)] else s.1, q.1, q.2) := by unfold jStep; rw [if_neg h1, if_neg h2]
    refine wx_cut (fun ρ' O' B' => ρ' = [some (.at_ u (seqD bq (ps.map (prX c)))), some (.val (.ref p)), some (.str s.2.1), some (.int s.2.2), some (.str q.1), some (.int q.2)] ∧ O' = [(p, .list ((if s.2.2 > 0 then s.1 ++ [(s.2.1, s.2.2)] else s.1).map prD))] ∧ B = B') ?_ ?_
    · refine wx_ifT <| wt_test <| we_op <| we_var rfl <| we_int <| ro_b0 ⟨_, rfl, fun h3 => ?_, fun h3 => ?_⟩
      · rw [if_pos (of_decide_eq_true h3), List.map_append]
        exact wx_app (n := 0) rfl rfl <| we_tup <| wa_cons <| we_var rfl <| wa_cons <| we_var rfl <| wa_nil ⟨z2, by rw [List.length_map]; omega, rfl, rfl, rfl⟩
      · rw [if_neg (of_decide_eq_false h3)]
        exact wx_next ⟨rfl, rfl, rfl⟩
    rintro _ _ _ ⟨rfl, rfl, rfl⟩
    exact wx_ws <| ws_par <| wa_cons <| we_var rfl <| wa_cons <| we_var rfl <| wa_nil ⟨_, _, rfl, ⟨⟨_, _, _, by rw [tk, ej], rfl, rfl⟩, rfl⟩⟩
  · obtain ⟨⟨o4, o5, s, es, rfl, rfl⟩, rfl⟩ := hI
    rw [List.length_map, List.take_length] at es
    have ls : s.1.length ≤ 1000000 := by
      have h1 := jFold_len ps ([], "", 0)
      rw [← es] at h1
      have h1 : s.1.length ≤ 0 + ps.length := h1
      omega
    have ee : joinF ps = jEnd s := by unfold joinF; rw [es]
    rw [ee] at hk
    refine wx_cut (fun ρ' O' B' => ρ' = [some (.at_ u (seqD bq (ps.map (prX c)))), some (.val (.ref p)), some (.str s.2.1), some (.int s.2.2), o4, o5] ∧ O' = [(p, .list ((jEnd s).map prD))] ∧ B = B') ?_ ?_
    · unfold jEnd
      refine wx_ifT <| wt_test <| we_op <| we_var rfl <| we_int <| ro_b0 ⟨_, rfl, fun h3 => ?_, fun h3 => ?_⟩
      · rw [if_pos (of_decide_eq_true h3), List.map_append]
        exact wx_app (n := 0) rfl rfl <| we_tup <| wa_cons <| we_var rfl <| wa_cons <| we_var rfl <| wa_nil ⟨z2, by rw [List.length_map]; omega, rfl, rfl, rfl⟩
      · rw [if_neg (of_decide_eq_false h3)]
        exact wx_next ⟨rfl, rfl, rfl⟩
    rintro _ _ _ ⟨rfl, rfl, rfl⟩
    exact wx_tell (i := 1) rfl <| wx_ws <| ws_ret <| we_tupleL <| wa_cons <| we_var rfl <| wa_nil ⟨_, rfl, hk⟩
end
end AW

set_option linter.all false
set_option maxRecDepth 100000
set_option maxHeartbeats 8000000
namespace AW
open PySem PySem.Spec PyProof.Rows L2 Fewest
variable [Tbs]
section
variable {P : Program} {w : World} {K : PySem.W.Frag} {mg : Str → Option Value} {base : Heap} [CDict K w "DIRECTIONS" L_DIRECTIONS]
abbrev T3 := Int × Int × Int
abbrev tD (p : T3) : D := t3 p.1 p.2.1 p.2.2
def dx (c : Str) : Int := if c = "e" then 1 else if c = "w" then -1 else 0
def dy (c : Str) : Int := if c = "n" then 1 else if c = "s" then -1 else 0
theorem chS_enws : chS "enws" = (["e", "n", "w", "s"] : List Str) := by decide +kernel
theorem mem_enws {c : Str} (h : c ∈ chS "enws") : c = "e" ∨ c = "n" ∨ c = "w" ∨ c = "s" := by
  rw [chS_enws] at h
  simpa using h
theorem look_dir {c : Str} (h : c ∈ chS "enws") : L_DIRECTIONS.lookup c = some ([dx c, dy c].map V.int) := by
  rcases mem_enws h with rfl | rfl | rfl | rfl
  · rfl
  · rfl
  · rfl
  · rfl
theorem dir1 (c : Str) : Bd 2 (dx c) ∧ Bd 2 (dy c) := by
  unfold dx dy Bd
  constructor <;> (repeat' split) <;> decide
/-- where a run leads -/
def cStep (s : T3) (p : Rn) : T3 := (s.1 + dx p.1 * p.2, s.2.1 + dy p.1 * p.2, s.2.2 + s.1 * dy p.1 * p.2)
def posF (ps : List Rn) : T3 := ps.foldl cStep (0, 0, 0)
/-- the corners, the first one too -/
def cornF (ps : List Rn) : List T3 := (List.range (ps.length + 1)).map fun i => posF (ps.take i)
/-- told runs: letters and bounded counts -/
def RnOk (ps : List Rn) : Prop := ps.length ≤ 1000000 ∧ (∀ p ∈ ps, p.1 ∈ chS "enws" ∧ Bd 3000 p.2) ∧ ∀ i, Bd 3000 (posF (ps.take i)).1
def pr_corners (T : Tx K mg) : Pr := fun ds B k e => ∃ ps : List Rn, ds = [.tup (ps.map prD)] ∧ RnOk ps ∧ k (.lst ((cornF ps).map tD)) B
theorem okD_corners (T : Tx K mg) : FnOk P w K mg base (L2.CX P w) 1 T.a_corners T.d_corners P_corners (spD K (pr_corners T)) := by
  refine T.F_corners.okX sc_corners (spD_len fun ds B k e h => by obtain ⟨ps, rfl, ⟨hl, hp, hb⟩, hk⟩ := h; rfl) (fun cdv A outer s H vs Q E hr h => ?_)
  obtain ⟨G, ds, B, k, e, hs, hR, ⟨ps, rfl, ⟨hl, hp, hb⟩, hk⟩, hK, hX⟩ := h
  refine ⟨_, (pss_cons (ps_asg (pe_tup (pa_cons pe_int (pa_cons pe_int (pa_cons pe_int pa_nil)))) (pg_tup rfl (pgs_cons (pg_name (i := 1) sc_corners.nd rfl (.inl rfl)) (pgs_cons (pg_name (i := 2) sc_corners.nd rfl (.inl rfl)) (pgs_cons (pg_name (i := 3) sc_corners.nd rfl (.inl rfl)) pgs_nil)))))
 (pss_cons (ps_set (i := 4) sc_corners.nd rfl (.inl rfl) (pe_lst (pa_cons (pe_tup (pa_cons (pv 1) (pa_cons (pv 2) (pa_cons (pv 3) pa_nil)))) pa_nil)))
 (pss_cons (ps_for (passes_of rfl) rfl (pi_tup (pv 0)) (pg_tup rfl (pgs_cons (pg_name (i := 5) sc_corners.nd rfl (.inl rfl)) (pgs_cons (pg_name (i := 6) sc_corners.nd rfl (.inl rfl)) pgs_nil)))
 (pss_cons (ps_asg (pe_cdict (cd := (inferInstance : CDict K w "DIRECTIONS" L_DIRECTIONS)) (by decide) (by rfl) T.ns_DIRECTIONS T.gc_DIRECTIONS (pv 5) (fun _ _ => rfl)) (pg_tup rfl (pgs_cons (pg_name (i := 7) sc_corners.nd rfl (.inl rfl)) (pgs_cons (pg_name (i := 8) sc_corners.nd rfl (.inl rfl)) pgs_nil))))
 (pss_cons (ps_set (i := 3) sc_corners.nd rfl (.inl rfl) (pe_op op_add (pv 3) (pe_op op_mulW (pe_op op_mulW (pv 1) (pv 8)) (pv 6))))
 (pss_cons (ps_set (i := 1) sc_corners.nd rfl (.inl rfl) (pe_op op_add (pv 1) (pe_op op_mulW (pv 7) (pv 6))))
 (pss_cons (ps_set (i := 2) sc_corners.nd rfl (.inl rfl) (pe_op op_add (pv 2) (pe_op op_mulW (pv 8) (pv 6))))
 (pss_one (ps_expr (pe_bm PySem.F.plainAttrs_list PySem.F.slot_list_append PySem.F.type_list_append mt_append (pv 4) (pa_cons (pe_tup (pa_cons (pv 1) (pa_cons (pv 2) (pa_cons (pv 3) pa_nil)))) pa_nil)))))))))
 (pss_one (ps_ret (pv 4)))))), run_body (ρ := [some (.tup (ps.map prD)), none, none, none, none, none, none, none, none]) hs hR hK hX rfl ?_⟩
  have zL : 16000000 < sizeLine := by decide
  have z3 : 3 ≤ sizeLine := by decide
  refine wx_own <| wx_seq <| wx_ws <| ws_asg <| we_tup <| wa_cons <| we_int <| wa_cons <| we_int <| wa_cons <| we_int <| wa_nil ⟨z3, wg_tup rfl <| wgs_cons <| wg_name <| wgs_cons <| wg_name <| wgs_cons <| wg_name <| wgs_nil ?_⟩
  refine wx_seq <| wx_newlistA <| wa_cons <| we_tup <| wa_cons <| we_var rfl <| wa_cons <| we_var rfl <| wa_cons <| we_var rfl <| wa_nil ⟨z3, wa_nil ⟨Nat.le_of_ble_eq_true rfl, fun q => ?_⟩⟩
  refine wx_seq <| wx_for_tup (j := 0) rfl fun u => ⟨fun i ρ' O' B' => (∃ (o5 o6 o7 o8 : Option D) (s : T3), s = posF (ps.take i) ∧ ρ' = [some (.at_ u (.tup (ps.map prD))), some (.int s.1), some (.int s.2.1), some (.int s.2.2), some (.val (.ref q)), o5, o6, o7, o8] ∧ O' = [(q, .list (((List.range (i + 1)).map fun j => posF (ps.take j)).map tD))]) ∧ B = B', ⟨⟨_, _, _, _, (0, 0, 0), rfl, rfl, rfl⟩, rfl⟩, fun i ρ' O' B' hI => ?_, fun i d ρ' O' B' hd hI => ?_, fun ρ' O' B' hI => ?_⟩
  · obtain ⟨⟨o5, o6, o7, o8, s, _, rfl, _⟩, _⟩ := hI
    rfl
  · obtain ⟨⟨o5, o6, o7, o8, s, es, rfl, rfl⟩, rfl⟩ := hI
    rw [List.getElem?_map] at hd
    obtain ⟨r, hr', rfl⟩ := Option.map_eq_some_iff.mp hd
    have hi := (List.getElem?_eq_some_iff.mp hr').1
    have tk : posF (ps.take (i + 1)) = cStep s r := by
      unfold posF
      rw [List.take_add_one, hr', Option.toList_some, List.foldl_append, es]; rfl
    obtain ⟨hc, ht⟩ := hp r (List.mem_of_getElem? hr')
    have bs : Bd 3000 s.1 := by rw [es]; exact hb i
    have b1 := (dir1 r.1).1
    have b2 := (dir1 r.1).2
    refine wg_tup rfl <| wgs_cons <| wg_name <| wgs_cons <| wg_name <| wgs_nil ?_
    refine wx_seq <| wx_ws <| ws_asg <| we_cdict <| we_var rfl ⟨r.1, [dx r.1, dy r.1], rfl, look_dir hc, wg_tup rfl <| wgs_cons <| wg_name <| wgs_cons <| wg_name <| wgs_nil ?_⟩
    refine wx_seq <| wx_ws <| ws_set <| we_op <| we_var rfl <| we_op <| we_op <| we_var rfl <| we_var rfl <| ro_i (cmw (bs.mono (by decide)) (b2.mono (by decide))) <| we_var rfl <| ro_i (cmw ((bs.mul b2).mono (by decide)) (ht.mono (by decide))) <| ro_i0 ?_
    refine wx_seq <| wx_ws <| ws_set <| we_op <| we_var rfl <| we_op <| we_var rfl <| we_var rfl <| ro_i (cmw (b1.mono (by decide)) (ht.mono (by decide))) <| ro_i0 ?_
    refine wx_seq <| wx_ws <| ws_set <| we_op <| we_var rfl <| we_op <| we_var rfl <| we_var rfl <| ro_i (cmw (b2.mono (by decide)) (ht.mono (by decide))) <| ro_i0 ?_
    refine wx_app (n := 0) rfl rfl <| we_tup <| wa_cons <| we_var rfl <| wa_cons <| we_var rfl <| wa_cons <| we_var rfl <| wa_nil ⟨z3, by rw [List.length_map, List.length_map, List.length_range]; omega, ⟨_, _, _, _, cStep s r, tk.symm, rfl, ?_⟩, rfl⟩
    rw [List.range_succ (n := i + 1), List.map_append, List.map_append]
    show [(q, OC.list (_ ++ [tD (cStep s r)]))] = [(q, OC.list (_ ++ [tD (posF (ps.take (i + 1)))]))]
    rw [tk]
  · obtain ⟨⟨o5, o6, o7, o8, s, es, rfl, rfl⟩, rfl⟩ := hI
    rw [List.length_map]
    exact wx_tell (i := 4) rfl <| wx_ws <| ws_ret <| we_var rfl hk
end
end AW

set_option linter.all false
set_option maxRecDepth 100000
set_option maxHeartbeats 8000000
namespace AW
open PySem PySem.Spec PyProof.Rows L2 Fewest
variable [Tbs]
section
variable {P : Program} {w : World} {K : PySem.W.Frag} {mg : Str → Option Value} {base : Heap}
theorem kit_ll {K : PySem.W.Frag} : PySem.W.kitAny K (.type "list") [.type "list", .type "tuple"] = some true := by kernel_rfl
theorem kit_lt {K : PySem.W.Frag} : PySem.W.kitAny K (.type "tuple") [.type "list", .type "tuple"] = some true := by kernel_rfl
def pr_is_run (T : Tx K mg) : Pr := fun ds B k e => ∃ (p : Rn) (c : Bool), ds = [prX c p] ∧ p.1 ∈ chS "enws" ∧ 0 ≤ p.2 ∧ k (.bl true) B
theorem okD_is_run (T : Tx K mg) : FnOk P w K mg base (L2.CX P w) 3 T.a_is_run T.d_is_run P_is_run (spD K (pr_is_run T)) := by
  refine T.F_is_run.okX sc_is_run (spD_len fun ds B k e h => by obtain ⟨p, c, rfl, hc, h0, hk⟩ := h; rfl) (fun cdv A outer s H vs Q E hr h => ?_)
  have G_is_whole : FnOk P w K mg base (L2.CX P w) 2 _ _ _ _ := okD_is_whole T
  obtain ⟨G, ds, B, k, e, hs, hR, ⟨p, c, rfl, hc, h0, hk⟩, hK, hX⟩ := h
  refine ⟨_, (pss_cons (ps_if (PW.pt (pw_or (pt_not (pt_val (pe_callB call_isiT (by rfl) T.n_isinstance (by decide +kernel) (pa_cons (pv 0) (pa_cons (pe_tup (pa_cons (pe_bltn (v := .ty "list") (by rfl) T.n_list (by decide +kernel) rfl) (pa_cons (pe_bltn (v := .ty "tuple") (by rfl) T.n_tuple (by decide +kernel) rfl) pa_nil))) pa_nil))))) (pw_or1 (pt_cmpR op_ne (pe_callB call_len_seq (by rfl) T.n_len (by decide +kernel) (pa_cons (pv 0) pa_nil)) pe_int (nomark _)))))
 (pss_one (ps_ret pe_bl))
 pss_nil)
 (pss_cons (ps_asg (pv 0) (pg_or (pg_tup rfl (pgs_cons (pg_name (i := 1) sc_is_run.nd rfl (.inl rfl)) (pgs_cons (pg_name (i := 2) sc_is_run.nd rfl (.inl rfl)) pgs_nil))) (pg_unl rfl (pgs_cons (pg_name (i := 1) sc_is_run.nd rfl (.inl rfl)) (pgs_cons (pg_name (i := 2) sc_is_run.nd rfl (.inl rfl)) pgs_nil)))))
 (pss_one (ps_ret (pe_and (pe_callB call_isi (by rfl) T.n_isinstance (by decide +kernel) (pa_cons (pv 1) (pa_cons (pe_bltn (v := .ty "str") (by rfl) T.n_str (by decide +kernel) rfl) pa_nil))) (pe_and (pe_cmpR op_eq (pe_callB call_len_str (by rfl) T.n_len (by decide +kernel) (pa_cons (pv 1) pa_nil)) pe_int (nomark _)) (pe_and (pe_cmpR op_in_str (pv 1) (pe_glob (v := .str "enws") (by rfl) T.gc_LETTERS ⟨_, rfl⟩) (by rfl)) (pe_one (pe_call G_is_whole (hr.mono (by decide)) (by rfl) T.g_is_whole T.F_is_whole.kp T.b_is_whole .nil passL (pa_cons (pv 2) pa_nil)))))))))), run_body (ρ := [some (prX c p), none, none]) hs hR hK hX rfl ?_⟩
  have ty : ∃ t, TyD K (prX c p) t ∧ PySem.W.kitAny K t [.type "list", .type "tuple"] = some true := by
    cases c with
    | false => exact ⟨_, tyD_tup, kit_lt⟩
    | true => exact ⟨_, tyD_lst, kit_ll⟩
  obtain ⟨tt0, ty, tk⟩ := ty
  refine ws_seq <| ws_if <| wt_or <| wt_not <| wt_val <| we_isiT2 <| we_var rfl ⟨ty, tk, _, rfl, (fun h => nomatch h), fun _ => ?_⟩
  have e2 : prX c p = seqD (!c) [.str p.1, .int p.2] := by cases c <;> rfl
  refine wt_test <| we_op <| we_lenSq (!c) <| wa_cons <| we_var rfl <| wa_nil ⟨[.str p.1, .int p.2], by rw [e2], we_int <| ro_neI ⟨_, rfl, (fun h => nomatch h), fun _ => ws_next ?_⟩⟩
  refine ws_seq <| ws_asg <| we_var rfl <| wg_pr c <| wgs_cons <| wg_name <| wgs_cons <| wg_name <| wgs_nil ?_
  have kss : PySem.W.kitOne K (.type "str") (.type "str") = some true := kit_self
  have hin : (!(Builtin.Str.occurrences ("enws" : Str) p.1 0 ("enws" : Str).length 1).isEmpty) = true ∧ p.1.length = 1 := by
    rcases mem_enws hc with e | e | e | e <;> rw [e] <;> decide +kernel
  refine ws_ret <| we_and <| we_isi1 <| we_var rfl ⟨tyD_str, kss, _, rfl, fun _ => ?_, fun h => nomatch h⟩
  refine we_and <| we_op <| we_lenStr <| wa_cons <| we_var rfl <| wa_nil ⟨_, rfl, by rw [hin.2]; decide, we_int <| ro_eqI ?_⟩
  rw [decide_eq_true (show (p.1.length : Int) = 1 by rw [hin.2]; rfl)]
  refine ⟨_, rfl, fun _ => ?_, fun h => nomatch h⟩
  refine we_and <| we_op <| we_var rfl <| we_str <| ro_inS ?_
  rw [hin.1]
  refine ⟨_, rfl, fun _ => ?_, fun h => nomatch h⟩
  refine we_call <| wa_cons <| we_var rfl <| wa_nil ⟨_, rfl, .inl ⟨p.2, rfl, ?_⟩⟩
  rw [decide_eq_true h0]
  exact hk
end
end AW

set_option linter.all false
set_option maxRecDepth 100000
set_option maxHeartbeats 8000000
namespace AW
open PySem PySem.Spec PyProof.Rows L2 Fewest
variable [Tbs]
section
variable {P : Program} {w : World} {K : PySem.W.Frag} {mg : Str → Option Value} {base : Heap}
def pr_Ready_init : List D → Int → (List D → Int → Prop) → EW → Prop := fun ds B k e => ∃ d, ds = [d] ∧ k [d] B
theorem okD_Ready_init (T : Tx K mg) : FnOk P w K mg base (L2.CX P w) 1 T.a_Ready_init T.d_Ready_init P_Ready_init (spI K T.C_Ready ["runs"] pr_Ready_init) := by
  refine T.F_Ready_init.okX sc_Ready_init (fun vs H Q E h => ?_) (fun cdv A outer s H vs Q E hr h => ?_)
  · obtain ⟨p, dx, ws, G, ds, B, k, e, rfl, hp, gp, gdx, ne, hd, hs, hR, ⟨d, rfl, _⟩, hK, hX⟩ := h
    rw [List.length_cons, ← hR.length]
    rfl
  · obtain ⟨p, dx, ws, G, ds, B, k, e, rfl, hp, gp, gdx, ne, hd, hs, hR, ⟨d, rfl, hk⟩, hK, hX⟩ := h
    obtain ⟨v, _, rfl, rv, rfl⟩ := hR
    refine ⟨_, (pss_one (ps_fld (pv 0) (pv 1) rfl)), ?_⟩
    refine ⟨_, rfl, _, rfl, p, T.C_Ready, dx, [], rfl, hp, T.cl_Ready, T.na_Ready_runs, (by decide), ?_⟩
    refine hK [d] [v] B G _ hk (Le.refl _ _) (fun a o z => ?_) (fun a o z n nb nt => ?_) gp ?_ rfl ⟨_, _, rfl, rv, rfl⟩
    · rw [upd_ne (ne_of_none z gp)]
      exact hs _ _ z
    · exact ⟨by rw [upd_ne nb]; exact z, n⟩
    · rw [upd_same]
      simp [putF]
end
end AW

set_option linter.all false
set_option maxRecDepth 100000
set_option maxHeartbeats 8000000
namespace AW
open PySem PySem.Spec PyProof.Rows L2 Fewest
variable [Tbs]
section
variable {P : Program} {w : World} {K : PySem.W.Frag} {mg : Str → Option Value} {base : Heap}
abbrev rdD (T : Tx K mg) (t : D) : D := .ins T.C_Ready ["runs"] [t]
/-- pairs that are told: good runs, not too many -/
def TdOk (ps : List Rn) : Prop := ps.length ≤ 10000 ∧ ∀ p ∈ ps, p.1 ∈ chS "enws" ∧ 0 ≤ p.2
theorem chS_eq (x : Str) : x.cps.toList = [] → x = "" := fun h => by
  obtain ⟨a⟩ := x
  have : a = #[] := Array.toList_eq_nil_iff.mp h
  rw [this]; rfl
/-- a text of letters, stripped of them, is empty -/
theorem strip_good {x : Str} (h : ∀ c ∈ chS x, c ∈ chS "enws") : Txt.stripChars x "enws" = "" := by
  have hc : ∀ c ∈ x.cps.toList, ("enws" : Str).cps.contains c = true := fun c hc => by
    have h1 := h ⟨#[c]⟩ (List.mem_map_of_mem hc)
    have h2 : ∀ d ∈ chS "enws", d.cps.toList.all ("enws" : Str).cps.contains = true := by rw [chS_enws]; decide +kernel
    have h3 := h2 _ h1
    simpa using h3
  have tw : ∀ l : List Nat, (∀ c ∈ l, ("enws" : Str).cps.contains c = true) → l.takeWhile ("enws" : Str).cps.contains = l := by
    intro l
    induction l with
    | nil => intro _; rfl
    | cons a r ih => intro hh; rw [List.takeWhile_cons_of_pos (hh a (List.mem_cons_self ..)), ih fun c hc => hh c (List.mem_cons_of_mem _ hc)]
  have lo : stripLo ("enws" : Str).cps.contains true x = x.length := by
    unfold stripLo
    rw [if_pos rfl, tw _ hc]
    simp [Str.length]
  unfold Txt.stripChars Txt.stripBy
  by_cases hs : stripSame ("enws" : Str).cps.contains true true x = true
  · rw [if_pos hs]
    unfold stripSame at hs
    rw [lo, Bool.and_eq_true, beq_iff_eq] at hs
    refine chS_eq x ?_
    have := hs.1
    exact List.eq_nil_of_length_eq_zero (by simpa [Str.length] using this)
  · rw [if_neg hs]
    refine chS_eq _ ?_
    unfold stripped
    rw [lo]
    have hi : stripHi ("enws" : Str).cps.contains true x x.length ≤ x.length := by
      unfold stripHi
      rw [if_pos rfl]
      omega
    unfold Builtin.Str.strSub
    simp [Str.length] at hi ⊢
    try omega
def pr_told_runs (T : Tx K mg) : Pr := fun ds B k e => ∃ d, ds = [d] ∧ ((∃ (b c : Bool) (ps : List Rn), d = seqD b (ps.map (prX c)) ∧ TdOk ps ∧ k (.tup ((joinF ps).map prD)) B) ∨ (∃ t, d = rdD T t ∧ k t B) ∨ (∃ x : Str, d = .str x ∧ x.length ≤ 10000 ∧ (∀ c ∈ chS x, c ∈ chS "enws") ∧ k (.tup ((joinF ((chS x).map fun c => (c, 1))).map prD)) B))
theorem okD_told_runs (T : Tx K mg) : FnOk P w K mg base (L2.CX P w) 4 T.a_told_runs T.d_told_runs P_told_runs (spD K (pr_told_runs T)) := by
  refine T.F_told_runs.okX sc_told_runs (spD_len fun ds B k e h => by obtain ⟨d, rfl, hk⟩ := h; rfl) (fun cdv A outer s H vs Q E hr h => ?_)
  have G_is_run : FnOk P w K mg base (L2.CX P w) 3 _ _ _ _ := okD_is_run T
  have G_joined_runs : FnOk P w K mg base (L2.CX P w) 1 _ _ _ _ := okD_joined_runs T
  obtain ⟨G, ds, B, k, e, hs, hR, ⟨d, rfl, hk⟩, hK, hX⟩ := h
  refine ⟨_, (pss_cons (ps_if (pt_val (pe_callB call_isi (by rfl) T.n_isinstance (by decide +kernel) (pa_cons (pv 0) (pa_cons (pe_glob (v := .ref T.C_Ready) (by rfl) T.g_C_Ready rfl) pa_nil))))
 (pss_one (ps_ret (pe_fld (pv 0) rfl)))
 pss_nil)
 (pss_cons (ps_if (PW.pt (pw_or (pt_not (pt_val (pe_callB call_isiT (by rfl) T.n_isinstance (by decide +kernel) (pa_cons (pv 0) (pa_cons (pe_tup (pa_cons (pe_bltn (v := .ty "str") (by rfl) T.n_str (by decide +kernel) rfl) (pa_cons (pe_bltn (v := .ty "list") (by rfl) T.n_list (by decide +kernel) rfl) (pa_cons (pe_bltn (v := .ty "tuple") (by rfl) T.n_tuple (by decide +kernel) rfl) pa_nil)))) pa_nil))))) (pw_or1 (pt_cmpR op_gt (pe_or2 (pe_callB call_len_seq (by rfl) T.n_len (by decide +kernel) (pa_cons (pv 0) pa_nil)) (pe_callB call_len_str (by rfl) T.n_len (by decide +kernel) (pa_cons (pv 0) pa_nil))) (pe_glob (v := .int 10000) (by rfl) T.gc_MOST_RUNS ⟨_, rfl⟩) (nomark _)))))
 (pss_one (ps_ret pe_non))
 pss_nil)
 (pss_cons (ps_if (pt_val (pe_callB call_isi (by rfl) T.n_isinstance (by decide +kernel) (pa_cons (pv 0) (pa_cons (pe_bltn (v := .ty "str") (by rfl) T.n_str (by decide +kernel) rfl) pa_nil))))
 (pss_one (ps_ret (pe_ifExp (pt_cmpR op_eq (pe_bm PySem.F.plainAttrs_str PySem.F.slot_str_strip PySem.F.type_str_strip mt_stripChars (pv 0) (pa_cons (pe_glob (v := .str "enws") (by rfl) T.gc_LETTERS ⟨_, rfl⟩) pa_nil)) pe_str (nomark _)) (pe_call G_joined_runs (hr.mono (by decide)) (by rfl) T.g_joined_runs T.F_joined_runs.kp T.b_joined_runs .nil passL (pa_cons (pe_lc (te := (tTup (tCons (tVar 1) (tCons (tC (.int 1)) tNil)))) (own := [("letter", 1)]) (g := gName 1) (by rfl) sc_told_runs.nd (pi_str (pv 0)) (blkOk_by (own := [("letter", 1)]) (N := N_told_runs) (sc := defScope s_told_runs) (by decide +kernel)) (fun _ _ _ _ _ => pg_name (i := 1) sc_told_runs.nd rfl (Or.inl rfl)) (fun _ _ _ _ _ => pts_nil) (fun _ _ _ _ _ => (pe_tup (pa_cons (pv 1) (pa_cons pe_int pa_nil))))) pa_nil)) pe_non)))
 pss_nil)
 (pss_cons (ps_if (pt_not (pt_val (pe_callB (cr_all rfl) (by rfl) T.n_all (by decide +kernel) (pa_cons (pe_lc (te := (tCall (spD K (pr_is_run T)) [] E0 (tCons (tVar 2) tNil))) (own := [("pair", 2)]) (g := gName 2) (by rfl) sc_told_runs.nd (pi_or (pi_list (pv 0)) (pi_tup (pv 0))) (blkOk_by (own := [("pair", 2)]) (N := N_told_runs) (sc := defScope s_told_runs) (by decide +kernel)) (fun _ _ _ _ _ => pg_name (i := 2) sc_told_runs.nd rfl (Or.inl rfl)) (fun _ _ _ _ _ => pts_nil) (fun _ _ _ _ _ => (pe_call G_is_run (hr.mono (by decide)) (by rfl) T.g_is_run T.F_is_run.kp T.b_is_run .nil passL (pa_cons (pv 2) pa_nil)))) pa_nil))))
 (pss_one (ps_ret pe_non))
 pss_nil)
 (pss_one (ps_ret (pe_call G_joined_runs (hr.mono (by decide)) (by rfl) T.g_joined_runs T.F_joined_runs.kp T.b_joined_runs .nil passL (pa_cons (pv 0) pa_nil)))))))), run_body (ρ := [some d, none, none]) hs hR hK hX rfl ?_⟩
  have kl : PySem.W.kitAny K (.type "list") [.type "str", .type "list", .type "tuple"] = some true := by kernel_rfl
  have kt : PySem.W.kitAny K (.type "tuple") [.type "str", .type "list", .type "tuple"] = some true := by kernel_rfl
  have ksa : PySem.W.kitAny K (.type "str") [.type "str", .type "list", .type "tuple"] = some true := by kernel_rfl
  have ks : PySem.W.kitOne K (.type "list") (.type "str") = some false := by kernel_rfl
  have kst : PySem.W.kitOne K (.type "tuple") (.type "str") = some false := by kernel_rfl
  have kss : PySem.W.kitOne K (.type "str") (.type "str") = some true := kit_self
  rcases hk with ⟨b, c, ps, rfl, ⟨hl, hg⟩, hk⟩ | ⟨t, rfl, hk⟩ | ⟨x, rfl, hl, hg, hk⟩
  · cases b with
    | false =>
      refine ws_seq <| ws_if <| wt_val <| we_isiC <| we_var rfl ⟨tyD_lst, T.is_list_Ready, _, rfl, (fun h => nomatch h), fun _ => ws_next ?_⟩
      refine ws_seq <| ws_if <| wt_or <| wt_not <| wt_val <| we_isiT3 <| we_var rfl ⟨tyD_lst, kl, _, rfl, (fun h => nomatch h), fun _ => ?_⟩
      refine wt_test <| we_op <| we_orL <| we_lenL <| wa_cons <| we_var rfl <| wa_nil ⟨_, rfl, we_int <| ro_b0 ⟨_, rfl, fun h => ?_, fun _ => ws_next ?_⟩⟩
      · have := of_decide_eq_true h
        rw [List.length_map] at this
        omega
      refine ws_seq <| ws_if <| wt_val <| we_isi1 <| we_var rfl ⟨tyD_lst, ks, _, rfl, (fun h => nomatch h), fun _ => ws_next ?_⟩
      have zL : 16000000 < sizeLine := by decide
      refine ws_seq <| ws_if <| wt_not <| wt_val <| we_all <| wa_cons <| we_lcOrL <| we_lc_mapL (E1 := E0) (f := fun _ => .bl true) <| we_var rfl ⟨_, rfl, by rw [List.length_map]; omega, fun d hd k' hk' => ?_, wa_nil ⟨ps.map fun _ => true, ?_, ?_⟩⟩
      · obtain ⟨p, hp, rfl⟩ := List.mem_map.mp hd
        exact we_call <| wa_cons <| we_var rfl <| wa_nil ⟨p, c, rfl, (hg p hp).1, (hg p hp).2, hk'⟩
      · rw [List.map_map, List.map_map]; rfl
      · rw [show ((ps.map fun _ => true).all id) = true by simp]
        exact ⟨_, rfl, (fun h => nomatch h), fun _ => ws_next <| ws_ret <| we_call <| wa_cons <| we_var rfl <| wa_nil ⟨ps, false, c, rfl, by omega, hk⟩⟩
    | true =>
      refine ws_seq <| ws_if <| wt_val <| we_isiC <| we_var rfl ⟨tyD_tup, T.is_tuple_Ready, _, rfl, (fun h => nomatch h), fun _ => ws_next ?_⟩
      refine ws_seq <| ws_if <| wt_or <| wt_not <| wt_val <| we_isiT3 <| we_var rfl ⟨tyD_tup, kt, _, rfl, (fun h => nomatch h), fun _ => ?_⟩
      refine wt_test <| we_op <| we_orL <| we_lenT <| wa_cons <| we_var rfl <| wa_nil ⟨_, rfl, we_int <| ro_b0 ⟨_, rfl, fun h => ?_, fun _ => ws_next ?_⟩⟩
      · have := of_decide_eq_true h
        rw [List.length_map] at this
        omega
      refine ws_seq <| ws_if <| wt_val <| we_isi1 <| we_var rfl ⟨tyD_tup, kst, _, rfl, (fun h => nomatch h), fun _ => ws_next ?_⟩
      have zL : 16000000 < sizeLine := by decide
      refine ws_seq <| ws_if <| wt_not <| wt_val <| we_all <| wa_cons <| we_lcOrR <| we_lc_mapT (E1 := E0) (f := fun _ => .bl true) <| we_var rfl ⟨_, rfl, by rw [List.length_map]; omega, fun d hd k' hk' => ?_, wa_nil ⟨ps.map fun _ => true, ?_, ?_⟩⟩
      · obtain ⟨p, hp, rfl⟩ := List.mem_map.mp hd
        exact we_call <| wa_cons <| we_var rfl <| wa_nil ⟨p, c, rfl, (hg p hp).1, (hg p hp).2, hk'⟩
      · rw [List.map_map, List.map_map]; rfl
      · rw [show ((ps.map fun _ => true).all id) = true by simp]
        exact ⟨_, rfl, (fun h => nomatch h), fun _ => ws_next <| ws_ret <| we_call <| wa_cons <| we_var rfl <| wa_nil ⟨ps, true, c, rfl, by omega, hk⟩⟩
  · have ty : TyD K (rdD T t) (.ref T.C_Ready) := fun v G H B s r => by
      obtain ⟨a, dx, us, rfl, ha, _⟩ := r
      exact .base (.ins (s _ _ ha) T.cl_Ready T.ca_Ready T.cn T.ct T.cm_Ready)
    refine ws_seq <| ws_if <| wt_val <| we_isiC <| we_var rfl ⟨ty, kit_self, _, rfl, fun _ => ?_, fun h => nomatch h⟩
    exact ws_ret <| we_fld <| we_var rfl ⟨_, _, _, _, rfl, T.cl_Ready, T.na_Ready_runs, rfl, hk⟩
  · have z2 : 2 ≤ sizeLine := by decide
    have zS : 10000 < sizeLine := by decide
    refine ws_seq <| ws_if <| wt_val <| we_isiC <| we_var rfl ⟨tyD_str, T.is_str_Ready, _, rfl, (fun h => nomatch h), fun _ => ws_next ?_⟩
    refine ws_seq <| ws_if <| wt_or <| wt_not <| wt_val <| we_isiT3 <| we_var rfl ⟨tyD_str, ksa, _, rfl, (fun h => nomatch h), fun _ => ?_⟩
    refine wt_test <| we_op <| we_orR <| we_lenStr <| wa_cons <| we_var rfl <| wa_nil ⟨_, rfl, by omega, we_int <| ro_b0 ⟨_, rfl, fun h => ?_, fun _ => ws_next ?_⟩⟩
    · have := of_decide_eq_true h
      omega
    refine ws_seq <| ws_if <| wt_val <| we_isi1 <| we_var rfl ⟨tyD_str, kss, _, rfl, (fun _ => ?_), fun h => nomatch h⟩
    refine ws_ret <| we_ifE <| wt_test <| we_op <| we_stripC <| we_var rfl ⟨_, rfl, by omega, we_str ⟨_, rfl, we_str <| ro_eqS ?_⟩⟩
    rw [decide_eq_true (strip_good hg)]
    refine ⟨_, rfl, (fun _ => ?_), fun h => nomatch h⟩
    refine we_call <| wa_cons <| we_lc_strL (E1 := E0) <| we_var rfl ⟨x, (fun c => prD (c, 1)), rfl, by rw [chS_len]; show x.length < _; omega, fun c hc k' hk' => we_tup <| wa_cons <| we_var rfl <| wa_cons <| we_int <| wa_nil ⟨z2, hk'⟩, wa_nil ⟨(chS x).map fun c => (c, 1), false, false, ?_, ?_, hk⟩⟩
    · rw [List.map_map]; rfl
    · rw [List.length_map, chS_len]; show x.length ≤ _; omega
end
end AW

set_option linter.all false
set_option maxRecDepth 100000
set_option maxHeartbeats 8000000
namespace AW
open PySem PySem.Spec PyProof.Rows L2 Fewest
variable [Tbs]
section
variable {P : Program} {w : World} {K : PySem.W.Frag} {mg : Str → Option Value} {base : Heap}
theorem ok_BadWord_init (T : Tx K mg) : FnOk P w K mg base (L2.CX P w) 1 T.a_BadWord_init T.d_BadWord_init P_BadWord_init (sp_einit T.C_BadWord "value") := by
  refine T.F_BadWord_init.okX sc_BadWord_init (fun vs H Q E h => ?_) (fun cdv A outer s H vs Q E hr h => ?_)
  · obtain ⟨a, v, rfl, _⟩ := h
    rfl
  · obtain ⟨a, v, rfl, ha, k⟩ := h
    refine ⟨_, pss_one (ps_ost (pv 0) (pv 1)), ?_⟩
    exact ⟨_, rfl, _, rfl, a, T.C_BadWord, rfl, T.X_BadWord, T.na_BadWord_value, .inl ⟨ha, fun dx hd ne => k dx hd ne⟩⟩
def pr_Walk_init (T : Tx K mg) : List D → Int → (List D → Int → Prop) → EW → Prop := fun ds B k e => ∃ d, ds = [d] ∧ ((∃ (b c : Bool) (ps : List Rn), d = seqD b (ps.map (prX c)) ∧ TdOk ps ∧ k [.tup ((joinF ps).map prD)] B) ∨ (∃ t, d = rdD T t ∧ isNon t = false ∧ k [t] B) ∨ (∃ x : Str, d = .str x ∧ x.length ≤ 10000 ∧ (∀ c ∈ chS x, c ∈ chS "enws") ∧ k [.tup ((joinF ((chS x).map fun c => (c, 1))).map prD)] B))
theorem okD_Walk_init (T : Tx K mg) : FnOk P w K mg base (L2.CX P w) 5 T.a_Walk_init T.d_Walk_init P_Walk_init (spI K T.C_Walk ["runs"] (pr_Walk_init T)) := by
  have G_told_runs : FnOk P w K mg base (L2.CX P w) 4 _ _ _ _ := okD_told_runs T
  have G_BadWord_init : FnOk P w K mg base (L2.CX P w) 1 _ _ _ _ := ok_BadWord_init T
  refine T.F_Walk_init.okX sc_Walk_init (fun vs H Q E h => ?_) (fun cdv A outer s H vs Q E hr h => ?_)
  · obtain ⟨p, dx, ws, G, ds, B, k, e, rfl, hp, gp, gdx, ne, hd, hs, hR, ⟨d, rfl, _⟩, hK, hX⟩ := h
    rw [List.length_cons, ← hR.length]
    rfl
  · obtain ⟨p, dx, ws, G, ds, B, k, e, rfl, hp, gp, gdx, ne, hd, hs, hR, ⟨d, rfl, hk⟩, hK, hX⟩ := h
    obtain ⟨v, _, rfl, rv, rfl⟩ := hR
    refine ⟨_, (pss_cons (ps_set (i := 2) sc_Walk_init.nd rfl (.inl rfl) (pe_call G_told_runs (hr.mono (by decide)) (by rfl) T.g_told_runs T.F_told_runs.kp T.b_told_runs .nil (passE (E := E)) (pa_cons (pv 1) pa_nil)))
 (pss_cons (ps_if (pt_cmp (pc_isN (pv 2)))
 (pss_one (ps_raise rfl (takes_of rfl rfl rfl rfl) (pmk_oex T.X_BadWord T.ei_BadWord T.et_BadWord G_BadWord_init (hr.mono (by decide)) T.b_BadWord_init .nil passL rfl T.g_C_BadWord (by exact (pa_cons (pv 1) pa_nil)))))
 pss_nil)
 (pss_one (ps_fld (pv 0) (pv 2) rfl)))), ?_⟩
    have en : EnvR K G B [some (.val (.ref p)), some d, none] (L2.start N_Walk_init [.ref p, v]) := ⟨_, _, rfl, fun d q => by cases q; exact ⟨_, rfl, rfl⟩, _, _, rfl, fun d q => by cases q; exact ⟨_, rfl, rv⟩, _, _, rfl, fun d q => (nomatch q), rfl⟩
    have J : Ws K E e (tAsg (tCall (spD K (pr_told_runs T)) [] E (tCons (tVar 1) tNil)) (gName 2)) [some (.val (.ref p)), some d, none] B { nx := fun ρ' B' => ∃ t, ρ' = [some (.val (.ref p)), some d, some t] ∧ isNon t = false ∧ k [t] B', rt := fun _ _ => False } := by
      rcases hk with ⟨b, c, ps, rfl, hg, hk⟩ | ⟨t, rfl, hn, hk⟩ | ⟨x, rfl, hx, hg, hk⟩
      · exact ws_set <| we_call <| wa_cons <| we_var rfl <| wa_nil ⟨_, rfl, .inl ⟨b, c, ps, rfl, hg, ⟨_, rfl, rfl, hk⟩⟩⟩
      · exact ws_set <| we_call <| wa_cons <| we_var rfl <| wa_nil ⟨_, rfl, .inr (.inl ⟨t, rfl, ⟨_, rfl, hn, hk⟩⟩)⟩
      · exact ws_set <| we_call <| wa_cons <| we_var rfl <| wa_nil ⟨_, rfl, .inr (.inr ⟨x, rfl, hx, hg, ⟨_, rfl, rfl, hk⟩⟩)⟩
    refine J _ H G _ hs en hX ⟨fun ρ' σ' B' G' H' hz ex en' => ?_, fun _ _ _ _ _ h => h.elim, fun _ _ _ _ _ h => h.elim, fun _ _ _ _ _ h => h.elim⟩
    obtain ⟨t, eρ, hn, hk'⟩ := hz
    subst eρ
    have J2 : ∀ r : TS, Ws K E e (tIfS (tB (tIsN (tVar 2))) r tNext) [some (.val (.ref p)), some d, some t] B' { nx := fun ρ2 B2 => ρ2 = [some (.val (.ref p)), some d, some t] ∧ B2 = B', rt := fun _ _ => False } := fun r =>
      ws_if <| wt_val <| we_isN <| we_var rfl ⟨_, rfl, (fun h => by rw [hn] at h; cases h), fun _ => ws_next ⟨rfl, rfl⟩⟩
    show tSeq _ _ _ σ' H'
    unfold tSeq
    dsimp only
    refine J2 _ _ H' G' _ ex.sub en' (hX.ext ex) ⟨fun ρ2 σ2 B2 G2 H2 hz ex2 en2 => ?_, fun _ _ _ _ _ h => h.elim, fun _ _ _ _ _ h => h.elim, fun _ _ _ _ _ h => h.elim⟩
    obtain ⟨eρ, eB⟩ := hz
    subst eρ eB
    obtain ⟨_, _, rfl, h0, _, _, rfl, h1, _, _, rfl, h2, rfl⟩ := en2
    obtain ⟨u0, rfl, e0⟩ := h0 _ rfl
    obtain ⟨u2, rfl, q2⟩ := h2 _ rfl
    obtain rfl : u0 = .ref p := e0
    have e12 := ex.trans ex2
    obtain ⟨hp', gp'⟩ := e12.fr p _ hp gp ⟨(fun _ z => nomatch z), fun _ z => nomatch z⟩
    refine ⟨_, rfl, _, rfl, p, T.C_Walk, dx, [], rfl, hp', T.cl_Walk, T.na_Walk_runs, (by decide), ?_⟩
    refine hK [t] [u2] _ G2 _ hk' e12.le (fun a o z => ?_) (fun a o z n nb nt => ?_) gp' ?_ rfl ⟨_, _, rfl, q2, rfl⟩
    · rw [upd_ne (ne_of_none z gp')]
      exact e12.sub _ _ z
    · obtain ⟨z1, z2⟩ := e12.fr a o z n nt
      exact ⟨by rw [upd_ne nb]; exact z1, z2⟩
    · rw [upd_same]
      simp [putF]
end
end AW

set_option linter.all false
set_option maxRecDepth 100000
set_option maxHeartbeats 8000000
namespace AW
open PySem PySem.Spec PyProof.Rows L2 Fewest
variable [Tbs]
section
variable {P : Program} {w : World} {K : PySem.W.Frag} {mg : Str → Option Value} {base : Heap} [CDict K w "DIRECTIONS" L_DIRECTIONS]
abbrev wkD (T : Tx K mg) (ps : List Rn) : D := .ins T.C_Walk ["runs"] [.tup (ps.map prD)]
def pr_Walk_length (T : Tx K mg) : Pr := fun ds B k e => ∃ ps : List Rn, ds = [wkD T ps] ∧ ps.length ≤ 1000000 ∧ k (.int (ps.map (·.2)).sum) B
theorem okD_Walk_length (T : Tx K mg) : FnOk P w K mg base (L2.CX P w) 1 T.a_Walk_length T.d_Walk_length P_Walk_length (spD K (pr_Walk_length T)) := by
  refine T.F_Walk_length.okX sc_Walk_length (spD_len fun ds B k e h => by obtain ⟨ps, rfl, hl, hk⟩ := h; rfl) (fun cdv A outer s H vs Q E hr h => ?_)
  obtain ⟨G, ds, B, k, e, hs, hR, ⟨ps, rfl, hl, hk⟩, hK, hX⟩ := h
  refine ⟨_, (pss_one (ps_ret (pe_callB (cr_sum rfl) (by rfl) T.n_sum (by decide +kernel) (pa_cons (pe_lc (te := (tOp (rIxT K) (tVar 1) (tC (.int 1)))) (own := [("run", 1)]) (g := gName 1) (by rfl) sc_Walk_length.nd (pi_tup (pe_fld (pv 0) rfl)) (blkOk_by (own := [("run", 1)]) (N := N_Walk_length) (sc := defScope s_Walk_length) (by decide +kernel)) (fun _ _ _ _ _ => pg_name (i := 1) sc_Walk_length.nd rfl (Or.inl rfl)) (fun _ _ _ _ _ => pts_nil) (fun _ _ _ _ _ => (pe_ix ix_tup (pv 1) pe_int (fun _ _ => rfl)))) pa_nil)))), run_body (ρ := [some (wkD T ps), none]) hs hR hK hX rfl ?_⟩
  have zL : 16000000 < sizeLine := by decide
  refine ws_ret <| we_sum <| wa_cons <| we_lc_mapT (E1 := E0) (f := fun d => match d with | .tup [_, c] => c | _ => .non) <| we_fld <| we_var rfl ⟨_, _, _, _, rfl, T.cl_Walk, T.na_Walk_runs, rfl, _, rfl, by rw [List.length_map]; omega, fun d hd k' hk' => ?_, wa_nil ⟨ps.map (·.2), ?_, hk⟩⟩
  · obtain ⟨p, _, rfl⟩ := List.mem_map.mp hd
    exact we_op <| we_var rfl <| we_int <| ro_ixT rfl hk'
  · rw [List.map_map, List.map_map]; rfl
def pr_Walk_place (T : Tx K mg) : Pr := fun ds B k e => ∃ ps : List Rn, ds = [wkD T ps] ∧ RnOk ps ∧ k (pl T (posF ps).1 (posF ps).2.1 (posF ps).2.2) B
theorem okD_Walk_place (T : Tx K mg) : FnOk P w K mg base (L2.CX P w) 6 T.a_Walk_place T.d_Walk_place P_Walk_place (spD K (pr_Walk_place T)) := by
  refine T.F_Walk_place.okX sc_Walk_place (spD_len fun ds B k e h => by obtain ⟨ps, rfl, hr', hk⟩ := h; rfl) (fun cdv A outer s H vs Q E hr h => ?_)
  have G_Place_init : FnOk P w K mg base (L2.CX P w) _ _ _ _ _ := okD_Place_init T
  have G_corners : FnOk P w K mg base (L2.CX P w) 1 _ _ _ _ := okD_corners T
  obtain ⟨G, ds, B, k, e, hs, hR, ⟨ps, rfl, hr', hk⟩, hK, hX⟩ := h
  refine ⟨_, (pss_cons (ps_asg (pe_ix ix_list (pe_call G_corners (hr.mono (by decide)) (by rfl) T.g_corners T.F_corners.kp T.b_corners .nil passL (pa_cons (pe_fld (pv 0) rfl) pa_nil)) (pe_un un_neg pe_int) (fun _ _ => rfl)) (pg_tup rfl (pgs_cons (pg_name (i := 1) sc_Walk_place.nd rfl (.inl rfl)) (pgs_cons (pg_name (i := 2) sc_Walk_place.nd rfl (.inl rfl)) (pgs_cons (pg_name (i := 3) sc_Walk_place.nd rfl (.inl rfl)) pgs_nil)))))
 (pss_one (ps_ret (pe_make T.M_Place G_Place_init (hr.mono (by decide)) (by rfl) T.g_C_Place T.b_Place_init .nil passL (pa_cons (pv 1) (pa_cons (pv 2) (pa_cons (pv 3) pa_nil))))))), run_body (ρ := [some (wkD T ps), none, none, none]) hs hR hK hX rfl ?_⟩
  have hl : (cornF ps).length = ps.length + 1 := by unfold cornF; rw [List.length_map, List.length_range]
  have hg : (cornF ps)[ps.length]? = some (posF ps) := by
    unfold cornF
    rw [List.getElem?_map, List.getElem?_range (by omega)]
    show some (posF (ps.take ps.length)) = _
    rw [List.take_length]
  have hat : atI ((cornF ps).map tD) (-1) = some (tD (posF ps)) := by
    have h2 : ((cornF ps).map tD).length = ps.length + 1 := by rw [List.length_map, hl]
    unfold atI ixN
    rw [if_neg (by decide), if_pos (by omega)]
    show ((cornF ps).map tD)[(-1 + (((cornF ps).map tD).length : Int)).toNat]? = _
    rw [h2, show (-1 + ((ps.length + 1 : Nat) : Int)).toNat = ps.length by omega, List.getElem?_map, hg]
    rfl
  refine ws_seq <| ws_asg <| we_op <| we_call <| wa_cons <| we_fld <| we_var rfl ⟨_, _, _, _, rfl, T.cl_Walk, T.na_Walk_runs, rfl, wa_nil ⟨ps, rfl, hr', we_neg <| we_int ⟨_, rfl, ro_ixL hat <| wg_tup rfl <| wgs_cons <| wg_name <| wgs_cons <| wg_name <| wgs_cons <| wg_name <| wgs_nil ?_⟩⟩⟩
  exact ws_ret <| we_place T <| wa_cons <| we_var rfl <| wa_cons <| we_var rfl <| wa_cons <| we_var rfl <| wa_nil ⟨_, _, _, rfl, hk⟩
end
end AW

set_option linter.all false
set_option maxRecDepth 100000
set_option maxHeartbeats 8000000
namespace AW
open PySem PySem.Spec PyProof.Rows L2 Fewest
variable [Tbs]
section
variable {P : Program} {w : World} {K : PySem.W.Frag} {mg : Str → Option Value} {base : Heap} [CDict K w "DIRECTIONS" L_DIRECTIONS]
def pr_ready_walk (T : Tx K mg) : Pr := fun ds B k e => ∃ ps : List Rn, ds = [.tup (ps.map prD)] ∧ ps.length ≤ 10000 ∧ k (wkD T ps) B
theorem okD_ready_walk (T : Tx K mg) : FnOk P w K mg base (L2.CX P w) 7 T.a_ready_walk T.d_ready_walk P_ready_walk (spD K (pr_ready_walk T)) := by
  refine T.F_ready_walk.okX sc_ready_walk (spD_len fun ds B k e h => by obtain ⟨ps, rfl, hl, hk⟩ := h; rfl) (fun cdv A outer s H vs Q E hr h => ?_)
  have G_Ready_init : FnOk P w K mg base (L2.CX P w) 1 _ _ _ _ := okD_Ready_init T
  have G_Walk_init : FnOk P w K mg base (L2.CX P w) 5 _ _ _ _ := okD_Walk_init T
  obtain ⟨G, ds, B, k, e, hs, hR, ⟨ps, rfl, hl, hk⟩, hK, hX⟩ := h
  refine ⟨_, (pss_cons (ps_if (pt_cmpR op_gt (pe_callB call_len_seq (by rfl) T.n_len (by decide +kernel) (pa_cons (pv 0) pa_nil)) (pe_glob (v := .int 10000) (by rfl) T.gc_MOST_RUNS ⟨_, rfl⟩) (nomark _))
 (pss_one ps_never)
 pss_nil)
 (pss_one (ps_ret (pe_make T.M_Walk G_Walk_init (hr.mono (by decide)) (by rfl) T.g_C_Walk T.b_Walk_init .nil passL (pa_cons (pe_make T.M_Ready G_Ready_init (hr.mono (by decide)) (by rfl) T.g_C_Ready T.b_Ready_init .nil passL (pa_cons (pe_callTy call_tuple_of (by rfl) T.n_tuple (by decide +kernel) (pa_cons (pv 0) pa_nil)) pa_nil)) pa_nil))))), run_body (ρ := [some (.tup (ps.map prD))]) hs hR hK hX rfl ?_⟩
  refine ws_seq <| ws_if <| wt_test <| we_op <| we_lenT <| wa_cons <| we_var rfl <| wa_nil ⟨_, rfl, we_int <| ro_b0 ⟨_, rfl, fun h => ?_, fun _ => ws_next ?_⟩⟩
  · have := of_decide_eq_true h
    rw [List.length_map] at this
    omega
  exact ws_ret <| we_make <| wa_cons <| we_make <| wa_cons <| we_tupleT <| wa_cons <| we_var rfl <| wa_nil ⟨_, rfl, wa_nil ⟨_, rfl, wa_nil ⟨_, rfl, .inr (.inl ⟨_, rfl, rfl, hk⟩)⟩⟩⟩
def badP (m : Int) (d : D) : Prop := intD d = false ∨ ∃ n : Int, d = .int n ∧ (n < 0 ∨ m < n)
def pr_check_part (T : Tx K mg) : Pr := fun ds B k e => ∃ (ps : List Rn) (d : D), ds = [wkD T ps, d] ∧ ps.length ≤ 1000000 ∧ ((∃ n : Int, d = .int n ∧ 0 ≤ n ∧ n ≤ (ps.map (·.2)).sum ∧ k .non B) ∨ (plainD d = true ∧ badP (ps.map (·.2)).sum d ∧ e T.C_BadNumber (some ((["value"] : List Str), [d])) B))
theorem okD_check_part (T : Tx K mg) : FnOk P w K mg base (L2.CX P w) 3 T.a_check_part T.d_check_part P_check_part (spD K (pr_check_part T)) := by
  refine T.F_check_part.okX sc_check_part (spD_len fun ds B k e h => by obtain ⟨ps, d, rfl, hl, hk⟩ := h; rfl) (fun cdv A outer s H vs Q E hr h => ?_)
  have G_BadNumber_init : FnOk P w K mg base (L2.CX P w) 1 _ _ _ _ := ok_BadNumber_init T
  have G_Walk_length : FnOk P w K mg base (L2.CX P w) 1 _ _ _ _ := okD_Walk_length T
  have G_is_whole : FnOk P w K mg base (L2.CX P w) 2 _ _ _ _ := okD_is_whole T
  obtain ⟨G, ds, B, k, e, hs, hR, ⟨ps, d, rfl, hl, hk⟩, hK, hX⟩ := h
  refine ⟨_, (pss_one (ps_if (PW.pt (pw_or (pt_not (pt_val (pe_call G_is_whole (hr.mono (by decide)) (by rfl) T.g_is_whole T.F_is_whole.kp T.b_is_whole .nil (passE (E := E)) (pa_cons (pv 1) pa_nil)))) (pw_or1 (pt_cmpR op_gt (pv 1) (pe_prop (pv 0) T.cl_Walk T.Q_Walk_length G_Walk_length (hr.mono (by decide)) T.b_Walk_length .nil passL rfl) (nomark _)))))
 (pss_one (ps_raise rfl (takes_of rfl rfl rfl rfl) (pmk_oex T.X_BadNumber T.ei_BadNumber T.et_BadNumber G_BadNumber_init (hr.mono (by decide)) T.b_BadNumber_init .nil passL rfl T.g_C_BadNumber (by exact (pa_cons (pv 1) pa_nil)))))
 pss_nil)), run_body (ρ := [some (wkD T ps), some d]) hs hR hK hX rfl ?_⟩
  rcases hk with ⟨n, rfl, h0, h1, hk⟩ | ⟨pd, hb, he⟩
  · refine ws_if <| wt_or <| wt_not <| wt_val <| we_call <| wa_cons <| we_var rfl <| wa_nil ⟨_, rfl, .inl ⟨n, rfl, ?_⟩⟩
    rw [decide_eq_true h0]
    exact ⟨_, rfl, (fun h => nomatch h), fun _ => wt_test <| we_op <| we_var rfl <| we_prop <| we_var rfl ⟨_, _, rfl, ps, rfl, hl, ro_b0 ⟨_, rfl, fun h => absurd (of_decide_eq_true h) (by omega), fun _ => ws_next hk⟩⟩⟩
  · rcases hb with hb | ⟨n, rfl, hn⟩
    · exact ws_if <| wt_or <| wt_not <| wt_val <| we_call <| wa_cons <| we_var rfl <| wa_nil ⟨_, rfl, .inr ⟨pd, hb, ⟨_, rfl, (fun _ => ⟨fun _ => ws_raise1 (wa_cons (we_var rfl (wa_nil ⟨_, rfl, he⟩))), fun h => nomatch h⟩), fun h => nomatch h⟩⟩⟩
    · refine ws_if <| wt_or <| wt_not <| wt_val <| we_call <| wa_cons <| we_var rfl <| wa_nil ⟨_, rfl, .inl ⟨n, rfl, ?_⟩⟩
      by_cases h0 : 0 ≤ n
      · rw [decide_eq_true h0]
        exact ⟨_, rfl, (fun h => nomatch h), fun _ => wt_test <| we_op <| we_var rfl <| we_prop <| we_var rfl ⟨_, _, rfl, ps, rfl, hl, ro_b0 ⟨_, rfl, fun _ => ws_raise1 (wa_cons (we_var rfl (wa_nil ⟨_, rfl, he⟩))), fun h => absurd (of_decide_eq_false h) (by omega)⟩⟩⟩
      · rw [decide_eq_false h0]
        exact ⟨_, rfl, (fun _ => ⟨fun _ => ws_raise1 (wa_cons (we_var rfl (wa_nil ⟨_, rfl, he⟩))), fun h => nomatch h⟩), fun h => nomatch h⟩
end
end AW

set_option linter.all false
set_option maxRecDepth 100000
set_option maxHeartbeats 8000000
namespace AW
open PySem PySem.Spec PyProof.Rows L2 Fewest
variable [Tbs]
section
variable {P : Program} {w : World} {K : PySem.W.Frag} {mg : Str → Option Value} {base : Heap} [CDict K w "DIRECTIONS" L_DIRECTIONS]
def hStep (s : List Rn × Int) (p : Rn) : List Rn × Int := (s.1 ++ [(p.1, if s.2 < p.2 then s.2 else p.2)], s.2 - (if s.2 < p.2 then s.2 else p.2))
/-- the first n steps' runs, as head tells them -/
def hF (ps : List Rn) (n : Int) : List Rn := (ps.foldl hStep ([], n)).1
theorem hFold_len : ∀ (ps : List Rn) (s : List Rn × Int), (ps.foldl hStep s).1.length = s.1.length + ps.length
  | [], s => rfl
  | p :: ps, s => by
    rw [List.foldl_cons, hFold_len ps, List.length_cons]
    show (s.1 ++ [_]).length + _ = _
    rw [List.length_append, List.length_singleton]
    omega
theorem joinF_len (ps : List Rn) : (joinF ps).length ≤ ps.length + 1 := by
  have h := jFold_len ps ([], "", 0)
  have h : (ps.foldl jStep ([], "", 0)).1.length ≤ 0 + ps.length := h
  unfold joinF jEnd
  split
  · rw [List.length_append, List.length_singleton]; omega
  · omega
def pr_Walk_head (T : Tx K mg) : Pr := fun ds B k e => ∃ (ps : List Rn) (d : D), ds = [wkD T ps, d] ∧ ps.length ≤ 9000 ∧ ((∃ n : Int, d = .int n ∧ 0 ≤ n ∧ n ≤ (ps.map (·.2)).sum ∧ k (wkD T (joinF (hF ps n))) B) ∨ (plainD d = true ∧ badP (ps.map (·.2)).sum d ∧ e T.C_BadNumber (some ((["value"] : List Str), [d])) B))
theorem okD_Walk_head (T : Tx K mg) : FnOk P w K mg base (L2.CX P w) 8 T.a_Walk_head T.d_Walk_head P_Walk_head (spD K (pr_Walk_head T)) := by
  refine T.F_Walk_head.okX sc_Walk_head (spD_len fun ds B k e h => by obtain ⟨ps, d0, rfl, hl, hk⟩ := h; rfl) (fun cdv A outer s H vs Q E hr h => ?_)
  have G_check_part : FnOk P w K mg base (L2.CX P w) 3 _ _ _ _ := okD_check_part T
  have G_joined_runs : FnOk P w K mg base (L2.CX P w) 1 _ _ _ _ := okD_joined_runs T
  have G_ready_walk : FnOk P w K mg base (L2.CX P w) 7 _ _ _ _ := okD_ready_walk T
  obtain ⟨G, ds, B, k, e, hs, hR, ⟨ps, d0, rfl, hl, hk⟩, hK, hX⟩ := h
  refine ⟨_, (pss_cons (ps_expr (pe_call G_check_part (hr.mono (by decide)) (by rfl) T.g_check_part T.F_check_part.kp T.b_check_part .nil (passE (E := E)) (pa_cons (pv 0) (pa_cons (pv 1) pa_nil))))
 (pss_cons (ps_set (i := 2) sc_Walk_head.nd rfl (.inl rfl) (pe_lst pa_nil))
 (pss_cons (ps_set (i := 3) sc_Walk_head.nd rfl (.inl rfl) (pv 1))
 (pss_cons (ps_for (passes_of rfl) rfl (pi_tup (pe_fld (pv 0) rfl)) (pg_tup rfl (pgs_cons (pg_name (i := 4) sc_Walk_head.nd rfl (.inl rfl)) (pgs_cons (pg_name (i := 5) sc_Walk_head.nd rfl (.inl rfl)) pgs_nil)))
 (pss_cons (ps_set (i := 6) sc_Walk_head.nd rfl (.inl rfl) (pe_callB (call_min2 rfl) (by rfl) T.n_min (by decide +kernel) (pa_cons (pv 5) (pa_cons (pv 3) pa_nil))))
 (pss_cons (ps_expr (pe_bm PySem.F.plainAttrs_list PySem.F.slot_list_append PySem.F.type_list_append mt_append (pv 2) (pa_cons (pe_tup (pa_cons (pv 4) (pa_cons (pv 6) pa_nil))) pa_nil)))
 (pss_one (ps_set (i := 3) sc_Walk_head.nd rfl (.inl rfl) (pe_op op_sub (pv 3) (pv 6)))))))
 (pss_one (ps_ret (pe_call G_ready_walk (hr.mono (by decide)) (by rfl) T.g_ready_walk T.F_ready_walk.kp T.b_ready_walk .nil (passE (E := E)) (pa_cons (pe_call G_joined_runs (hr.mono (by decide)) (by rfl) T.g_joined_runs T.F_joined_runs.kp T.b_joined_runs .nil (passE (E := E)) (pa_cons (pv 2) pa_nil)) pa_nil)))))))), run_body (ρ := [some (wkD T ps), some d0, none, none, none, none, none]) hs hR hK hX rfl ?_⟩
  rcases hk with ⟨n, rfl, h0, h1, hk⟩ | ⟨pd, hb, he⟩
  rotate_left 1
  · exact wx_own <| wx_seq <| wx_ws <| ws_drop <| we_callE <| wa_cons <| we_var rfl <| wa_cons <| we_var rfl <| wa_nil ⟨ps, d0, rfl, by omega, .inr ⟨pd, hb, he⟩⟩
  have zL : 16000000 < sizeLine := by decide
  have z2 : 2 ≤ sizeLine := by decide
  refine wx_own <| wx_seq <| wx_ws <| ws_drop <| we_callE <| wa_cons <| we_var rfl <| wa_cons <| we_var rfl <| wa_nil ⟨ps, .int n, rfl, by omega, .inl ⟨n, rfl, h0, h1, ?_⟩⟩
  refine wx_seq <| wx_newlist fun q => ?_
  refine wx_seq <| wx_ws <| ws_set <| we_var rfl ?_
  refine wx_seq <| wx_for_fld (j := 0) rfl T.cl_Walk T.na_Walk_runs fun a => ⟨fun i ρ' O' B' => (∃ (o4 o5 o6 : Option D) (s : List Rn × Int), s = (ps.take i).foldl hStep ([], n) ∧ ρ' = [some (.ins T.C_Walk ["runs"] [.at_ a (.tup (ps.map prD))]), some (.int n), some (.val (.ref q)), some (.int s.2), o4, o5, o6] ∧ O' = [(q, .list (s.1.map prD))]) ∧ B = B', ⟨⟨_, _, _, ([], n), rfl, rfl, rfl⟩, rfl⟩, fun i ρ' O' B' hI => ?_, fun i d ρ' O' B' hd hI => ?_, fun ρ' O' B' hI => ?_⟩
  · obtain ⟨⟨o4, o5, o6, s, _, rfl, _⟩, _⟩ := hI
    rfl
  · obtain ⟨⟨o4, o5, o6, s, es, rfl, rfl⟩, rfl⟩ := hI
    rw [List.getElem?_map] at hd
    obtain ⟨r, hr', rfl⟩ := Option.map_eq_some_iff.mp hd
    have hi := (List.getElem?_eq_some_iff.mp hr').1
    have tk : (ps.take (i + 1)).foldl hStep ([], n) = hStep s r := by
      rw [List.take_add_one, hr', Option.toList_some, List.foldl_append, ← es]; rfl
    have ls : s.1.length ≤ 9000 := by
      rw [es, hFold_len, List.length_take]
      show 0 + _ ≤ _
      omega
    refine wg_tup rfl <| wgs_cons <| wg_name <| wgs_cons <| wg_name <| wgs_nil ?_
    refine wx_seq <| wx_ws <| ws_set <| we_min2 <| wa_cons <| we_var rfl <| wa_cons <| we_var rfl <| wa_nil ⟨_, _, rfl, ?_⟩
    refine wx_seq <| wx_app (n := 0) rfl rfl <| we_tup <| wa_cons <| we_var rfl <| wa_cons <| we_var rfl <| wa_nil ⟨z2, by rw [List.length_map]; omega, ?_⟩
    refine wx_ws <| ws_set <| we_op <| we_var rfl <| we_var rfl <| ro_i0 ⟨⟨_, _, _, hStep s r, tk.symm, rfl, ?_⟩, rfl⟩
    show [_] = [(q, OC.list ((s.1 ++ [_]).map prD))]
    rw [List.map_append]
    rfl
  · obtain ⟨⟨o4, o5, o6, s, es, rfl, rfl⟩, rfl⟩ := hI
    rw [List.length_map, List.take_length] at es
    have ee : hF ps n = s.1 := by unfold hF; rw [← es]
    rw [ee] at hk
    have ls : s.1.length ≤ 9000 := by
      rw [es, hFold_len]
      show 0 + _ ≤ _
      omega
    have lj := joinF_len s.1
    exact wx_tell (i := 2) rfl <| wx_ws <| ws_ret <| we_call <| wa_cons <| we_call <| wa_cons <| we_var rfl <| wa_nil ⟨s.1, false, false, rfl, by omega, wa_nil ⟨joinF s.1, rfl, by omega, hk⟩⟩
end
end AW

set_option linter.all false
set_option maxRecDepth 100000
set_option maxHeartbeats 8000000
namespace AW
open PySem PySem.Spec PyProof.Rows L2 Fewest
variable [Tbs]
section
variable {P : Program} {w : World} {K : PySem.W.Frag} {mg : Str → Option Value} {base : Heap} [CDict K w "DIRECTIONS" L_DIRECTIONS]
def pr_Walk_at (T : Tx K mg) : Pr := fun ds B k e => ∃ (ps : List Rn) (d : D), ds = [wkD T ps, d] ∧ ps.length ≤ 9000 ∧ ((∃ n : Int, d = .int n ∧ 0 ≤ n ∧ n ≤ (ps.map (·.2)).sum ∧ RnOk (joinF (hF ps n)) ∧ k (pl T (posF (joinF (hF ps n))).1 (posF (joinF (hF ps n))).2.1 (posF (joinF (hF ps n))).2.2) B) ∨ (plainD d = true ∧ badP (ps.map (·.2)).sum d ∧ e T.C_BadNumber (some ((["value"] : List Str), [d])) B))
theorem okD_Walk_at (T : Tx K mg) : FnOk P w K mg base (L2.CX P w) 9 T.a_Walk_at T.d_Walk_at P_Walk_at (spD K (pr_Walk_at T)) := by
  refine T.F_Walk_at.okX sc_Walk_at (spD_len fun ds B k e h => by obtain ⟨ps, d, rfl, hl, hk⟩ := h; rfl) (fun cdv A outer s H vs Q E hr h => ?_)
  have G_Walk_head : FnOk P w K mg base (L2.CX P w) 8 _ _ _ _ := okD_Walk_head T
  have G_Walk_place : FnOk P w K mg base (L2.CX P w) 6 _ _ _ _ := okD_Walk_place T
  obtain ⟨G, ds, B, k, e, hs, hR, ⟨ps, d, rfl, hl, hk⟩, hK, hX⟩ := h
  refine ⟨_, (pss_one (ps_ret (pe_meth0 (pe_meth (pv 0) T.cl_Walk T.M_Walk_head G_Walk_head (hr.mono (by decide)) T.b_Walk_head .nil (passE (E := E)) (pa_cons (pv 1) pa_nil)) T.cl_Walk T.M_Walk_place G_Walk_place (hr.mono (by decide)) T.b_Walk_place .nil (passE (E := E))))), run_body (ρ := [some (wkD T ps), some d]) hs hR hK hX rfl ?_⟩
  rcases hk with ⟨n, rfl, h0, h1, hr', hk⟩ | ⟨pd, hb, he⟩
  · exact ws_ret <| we_meth0 <| we_methE <| we_var rfl ⟨_, _, rfl, by decide +kernel, wa_cons <| we_var rfl <| wa_nil ⟨ps, _, rfl, hl, .inl ⟨n, rfl, h0, h1, ⟨_, _, rfl, by decide +kernel, ⟨_, rfl, hr', hk⟩⟩⟩⟩⟩
  · exact ws_ret <| we_meth0 <| we_methE <| we_var rfl ⟨_, _, rfl, by decide +kernel, wa_cons <| we_var rfl <| wa_nil ⟨ps, _, rfl, hl, .inr ⟨pd, hb, he⟩⟩⟩
def climbF (W H A : Int) (e n : Str) : List Rn := if H = 0 then [(e, W)] else
  [(e, A.fdiv H), (n, H - A.fmod H), (e, if W - A.fdiv H < 1 then W - A.fdiv H else 1), (n, A.fmod H), (e, W - A.fdiv H - (if W - A.fdiv H < 1 then W - A.fdiv H else 1))]
def pr_climb (T : Tx K mg) : Pr := fun ds B k e => ∃ (W H A : Int) (es no : Str), ds = [.int W, .int H, .int A, .str es, .str no] ∧ Bd 8000 H ∧ k (.lst ((climbF W H A es no).map prD)) B
theorem okD_climb (T : Tx K mg) : FnOk P w K mg base (L2.CX P w) 1 T.a_climb T.d_climb P_climb (spD K (pr_climb T)) := by
  refine T.F_climb.okX sc_climb (spD_len fun ds B k e h => by obtain ⟨W, H', A', es, no, rfl, bh, hk⟩ := h; rfl) (fun cdv A outer s H vs Q E hr h => ?_)
  obtain ⟨G, ds, B, k, e, hs, hR, ⟨W, H', A', es, no, rfl, bh, hk⟩, hK, hX⟩ := h
  refine ⟨_, (pss_cons (ps_if (pt_cmpR op_eq (pv 1) pe_int (nomark _))
 (pss_one (ps_ret (pe_lst (pa_cons (pe_tup (pa_cons (pv 3) (pa_cons (pv 0) pa_nil))) pa_nil))))
 pss_nil)
 (pss_cons (ps_asg (pe_callB call_divmodG (by rfl) T.n_divmod (by decide +kernel) (pa_cons (pv 2) (pa_cons (pv 1) pa_nil))) (pg_tup rfl (pgs_cons (pg_name (i := 5) sc_climb.nd rfl (.inl rfl)) (pgs_cons (pg_name (i := 6) sc_climb.nd rfl (.inl rfl)) pgs_nil))))
 (pss_cons (ps_set (i := 7) sc_climb.nd rfl (.inl rfl) (pe_callB (call_min2 rfl) (by rfl) T.n_min (by decide +kernel) (pa_cons pe_int (pa_cons (pe_op op_sub (pv 0) (pv 5)) pa_nil))))
 (pss_one (ps_ret (pe_lst (pa_cons (pe_tup (pa_cons (pv 3) (pa_cons (pv 5) pa_nil))) (pa_cons (pe_tup (pa_cons (pv 4) (pa_cons (pe_op op_sub (pv 1) (pv 6)) pa_nil))) (pa_cons (pe_tup (pa_cons (pv 3) (pa_cons (pv 7) pa_nil))) (pa_cons (pe_tup (pa_cons (pv 4) (pa_cons (pv 6) pa_nil))) (pa_cons (pe_tup (pa_cons (pv 3) (pa_cons (pe_op op_sub (pe_op op_sub (pv 0) (pv 5)) (pv 7)) pa_nil))) pa_nil))))))))))), run_body (ρ := [some (.int W), some (.int H'), some (.int A'), some (.str es), some (.str no), none, none, none]) hs hR hK hX rfl ?_⟩
  have z2 : 2 ≤ sizeLine := by decide
  refine ws_seq <| ws_if <| wt_test <| we_op <| we_var rfl <| we_int <| ro_eqI ⟨_, rfl, fun h => ?_, fun h => ws_next ?_⟩
  · have ec : climbF W H' A' es no = [(es, W)] := if_pos (of_decide_eq_true h)
    rw [ec] at hk
    exact ws_ret <| we_lst <| wa_cons <| we_tup <| wa_cons <| we_var rfl <| wa_cons <| we_var rfl <| wa_nil ⟨z2, wa_nil ⟨Nat.le_of_ble_eq_true rfl, hk⟩⟩
  have h := of_decide_eq_false h
  have ec : climbF W H' A' es no = [(es, A'.fdiv H'), (no, H' - A'.fmod H'), (es, if W - A'.fdiv H' < 1 then W - A'.fdiv H' else 1), (no, A'.fmod H'), (es, W - A'.fdiv H' - (if W - A'.fdiv H' < 1 then W - A'.fdiv H' else 1))] := if_neg h
  rw [ec] at hk
  refine ws_seq <| ws_asg <| we_divmod <| wa_cons <| we_var rfl <| wa_cons <| we_var rfl <| wa_nil ⟨A', H', rfl, dvg h (bh.mono (by decide)), wg_tup rfl <| wgs_cons <| wg_name <| wgs_cons <| wg_name <| wgs_nil ?_⟩
  refine ws_seq <| ws_set <| we_min2 <| wa_cons <| we_int <| wa_cons <| we_op <| we_var rfl <| we_var rfl <| ro_i0 <| wa_nil ⟨_, _, rfl, ?_⟩
  refine ws_ret <| we_lst <| wa_cons <| we_tup <| wa_cons <| we_var rfl <| wa_cons <| we_var rfl <| wa_nil ⟨z2, wa_cons <| we_tup <| wa_cons <| we_var rfl <| wa_cons <| we_op <| we_var rfl <| we_var rfl <| ro_i0 <| wa_nil ⟨z2, wa_cons <| we_tup <| wa_cons <| we_var rfl <| wa_cons <| we_var rfl <| wa_nil ⟨z2, wa_cons <| we_tup <| wa_cons <| we_var rfl <| wa_cons <| we_var rfl <| wa_nil ⟨z2, wa_cons <| we_tup <| wa_cons <| we_var rfl <| wa_cons <| we_op <| we_op <| we_var rfl <| we_var rfl <| ro_i0 <| we_var rfl <| ro_i0 <| wa_nil ⟨z2, wa_nil ⟨Nat.le_of_ble_eq_true rfl, hk⟩⟩⟩⟩⟩⟩
end
end AW

set_option linter.all false
set_option maxRecDepth 100000
set_option maxHeartbeats 8000000
namespace AW
open PySem PySem.Spec PyProof.Rows L2 Fewest
variable [Tbs]
section
variable {P : Program} {w : World} {K : PySem.W.Frag} {mg : Str → Option Value} {base : Heap} [CDict K w "DIRECTIONS" L_DIRECTIONS]
def eL (b : Bool) (x y : Str) : Str := if b = true then x else y
/-- the area, seen so that the place lies north-east -/
def upA (p : T3) : Int := if decide (p.1 < 0) = decide (p.2.1 < 0) then p.2.2 else -p.2.2
/-- the walk around the box, as it is told -/
def frameF (p : T3) (W H : Int) : List Rn :=
  if 2 * upA p < ab p.1 * ab p.2.1 then
    [(eL (decide (p.1 < 0)) "e" "w", W - ab p.1)] ++ (climbF H W (ab p.1 * ab p.2.1 - upA p) (eL (decide (p.2.1 < 0)) "s" "n") (eL (decide (p.1 < 0)) "w" "e") ++ [(eL (decide (p.2.1 < 0)) "n" "s", H - ab p.2.1)])
  else [(eL (decide (p.2.1 < 0)) "n" "s", H - ab p.2.1)] ++ (climbF W H (upA p) (eL (decide (p.1 < 0)) "w" "e") (eL (decide (p.2.1 < 0)) "s" "n") ++ [(eL (decide (p.1 < 0)) "e" "w", W - ab p.1)])
theorem climb_len (W H A : Int) (e n : Str) : (climbF W H A e n).length ≤ 5 := by
  unfold climbF
  split
  · show 1 ≤ 5; decide
  · show 5 ≤ 5; decide
def pr_framed_walk (T : Tx K mg) : Pr := fun ds B k e => ∃ (p : T3) (W H : Int), ds = [pl T p.1 p.2.1 p.2.2, .int W, .int H] ∧ Bd 3000 p.1 ∧ Bd 3000 p.2.1 ∧ Bd 8000 W ∧ Bd 8000 H ∧ TdOk (frameF p W H) ∧ k (wkD T (joinF (frameF p W H))) B
theorem okD_framed_walk (T : Tx K mg) : FnOk P w K mg base (L2.CX P w) 7 T.a_framed_walk T.d_framed_walk P_framed_walk (spD K (pr_framed_walk T)) := by
  refine T.F_framed_walk.okX sc_framed_walk (spD_len fun ds B k e h => by obtain ⟨p, W, H', rfl, bx, by', bw, bh, hg, hk⟩ := h; rfl) (fun cdv A outer s H vs Q E hr h => ?_)
  have G_Walk_init : FnOk P w K mg base (L2.CX P w) 5 _ _ _ _ := okD_Walk_init T
  have G_climb : FnOk P w K mg base (L2.CX P w) 1 _ _ _ _ := okD_climb T
  obtain ⟨G, ds, B, k, e, hs, hR, ⟨p, W, H', rfl, bx, by', bw, bh, hg, hk⟩, hK, hX⟩ := h
  refine ⟨_, (pss_cons (ps_par (i := 3) (j := 4) (by rfl) sc_framed_walk.nd rfl rfl (by decide) rfl rfl (pa_cons (pe_callB call_abs (by rfl) T.n_abs (by decide +kernel) (pa_cons (pe_fld (pv 0) rfl) pa_nil)) (pa_cons (pe_callB call_abs (by rfl) T.n_abs (by decide +kernel) (pa_cons (pe_fld (pv 0) rfl) pa_nil)) pa_nil)) (by rfl))
 (pss_cons (ps_asg (pe_ifExp (pt_cmpR op_lt (pe_fld (pv 0) rfl) pe_int (nomark _)) (pe_tup (pa_cons pe_str (pa_cons pe_str pa_nil))) (pe_tup (pa_cons pe_str (pa_cons pe_str pa_nil)))) (pg_tup rfl (pgs_cons (pg_name (i := 5) sc_framed_walk.nd rfl (.inl rfl)) (pgs_cons (pg_name (i := 6) sc_framed_walk.nd rfl (.inl rfl)) pgs_nil))))
 (pss_cons (ps_asg (pe_ifExp (pt_cmpR op_lt (pe_fld (pv 0) rfl) pe_int (nomark _)) (pe_tup (pa_cons pe_str (pa_cons pe_str pa_nil))) (pe_tup (pa_cons pe_str (pa_cons pe_str pa_nil)))) (pg_tup rfl (pgs_cons (pg_name (i := 7) sc_framed_walk.nd rfl (.inl rfl)) (pgs_cons (pg_name (i := 8) sc_framed_walk.nd rfl (.inl rfl)) pgs_nil))))
 (pss_cons (ps_set (i := 9) sc_framed_walk.nd rfl (.inl rfl) (pe_ifExp (pt_cmpR op_eq (pe_cmpR op_lt (pe_fld (pv 0) rfl) pe_int (nomark _)) (pe_cmpR op_lt (pe_fld (pv 0) rfl) pe_int (nomark _)) (nomark _)) (pe_fld (pv 0) rfl) (pe_un un_neg (pe_fld (pv 0) rfl))))
 (pss_cons (ps_if (pt_cmpR op_lt (pe_op op_mul pe_int (pv 9)) (pe_op op_mulW (pv 3) (pv 4)) (nomark _))
 (pss_cons (ps_set (i := 9) sc_framed_walk.nd rfl (.inl rfl) (pe_op op_sub (pe_op op_mulW (pv 3) (pv 4)) (pv 9)))
 (pss_cons (ps_asg (pe_tup (pa_cons (pv 4) (pa_cons (pv 3) (pa_cons (pv 2) (pa_cons (pv 1) pa_nil))))) (pg_tup rfl (pgs_cons (pg_name (i := 3) sc_framed_walk.nd rfl (.inl rfl)) (pgs_cons (pg_name (i := 4) sc_framed_walk.nd rfl (.inl rfl)) (pgs_cons (pg_name (i := 1) sc_framed_walk.nd rfl (.inl rfl)) (pgs_cons (pg_name (i := 2) sc_framed_walk.nd rfl (.inl rfl)) pgs_nil))))))
 (pss_one (ps_asg (pe_tup (pa_cons (pv 7) (pa_cons (pv 5) (pa_cons (pv 8) (pa_cons (pv 6) pa_nil))))) (pg_tup rfl (pgs_cons (pg_name (i := 5) sc_framed_walk.nd rfl (.inl rfl)) (pgs_cons (pg_name (i := 7) sc_framed_walk.nd rfl (.inl rfl)) (pgs_cons (pg_name (i := 6) sc_framed_walk.nd rfl (.inl rfl)) (pgs_cons (pg_name (i := 8) sc_framed_walk.nd rfl (.inl rfl)) pgs_nil)))))))))
 pss_nil)
 (pss_cons (ps_set (i := 10) sc_framed_walk.nd rfl (.inl rfl) (pe_call G_climb (hr.mono (by decide)) (by rfl) T.g_climb T.F_climb.kp T.b_climb .nil passL (pa_cons (pv 1) (pa_cons (pv 2) (pa_cons (pv 9) (pa_cons (pv 5) (pa_cons (pv 7) pa_nil)))))))
 (pss_one (ps_ret (pe_make T.M_Walk G_Walk_init (hr.mono (by decide)) (by rfl) T.g_C_Walk T.b_Walk_init .nil passL (pa_cons (pe_lst (pa_cons (pe_tup (pa_cons (pv 8) (pa_cons (pe_op op_sub (pv 2) (pv 4)) pa_nil))) (StX.pa_star (pv 10) (pa_cons (pe_tup (pa_cons (pv 6) (pa_cons (pe_op op_sub (pv 1) (pv 3)) pa_nil))) pa_nil)))) pa_nil)))))))))), run_body (ρ := [some (pl T p.1 p.2.1 p.2.2), some (.int W), some (.int H'), none, none, none, none, none, none, none, none]) hs hR hK hX rfl ?_⟩
  have z2 : 2 ≤ sizeLine := by decide
  have cxy : CMulW (ab p.1) (ab p.2.1) := cmw (bx.ab.mono (by decide)) (by'.ab.mono (by decide))
  refine ws_seq <| ws_par <| wa_cons <| we_abs <| wa_cons <| we_fx T <| we_var rfl ⟨_, _, _, rfl, wa_nil ⟨_, rfl, wa_cons <| we_abs <| wa_cons <| we_fy T <| we_var rfl ⟨_, _, _, rfl, wa_nil ⟨_, rfl, wa_nil ⟨_, _, rfl, ?_⟩⟩⟩⟩⟩
  rw [ab_if, ab_if]
  refine ws_cut (fun ρ' B' => ρ' = [some (pl T p.1 p.2.1 p.2.2), some (.int W), some (.int H'), some (.int (ab p.1)), some (.int (ab p.2.1)), some (.str (eL (decide (p.1 < 0)) "w" "e")), some (.str (eL (decide (p.1 < 0)) "e" "w")), none, none, none, none] ∧ B = B') ?_ ?_
  · exact ws_asg <| we_ifE <| wt_test <| we_op <| we_fx T <| we_var rfl ⟨_, _, _, rfl, we_int <| ro_b0 ⟨_, rfl, fun h => we_tup <| wa_cons <| we_str <| wa_cons <| we_str <| wa_nil ⟨z2, wg_tup rfl <| wgs_cons <| wg_name <| wgs_cons <| wg_name <| wgs_nil ⟨by rw [h]; rfl, rfl⟩⟩, fun h => we_tup <| wa_cons <| we_str <| wa_cons <| we_str <| wa_nil ⟨z2, wg_tup rfl <| wgs_cons <| wg_name <| wgs_cons <| wg_name <| wgs_nil ⟨by rw [h]; rfl, rfl⟩⟩⟩⟩
  rintro _ _ ⟨rfl, rfl⟩
  refine ws_cut (fun ρ' B' => ρ' = [some (pl T p.1 p.2.1 p.2.2), some (.int W), some (.int H'), some (.int (ab p.1)), some (.int (ab p.2.1)), some (.str (eL (decide (p.1 < 0)) "w" "e")), some (.str (eL (decide (p.1 < 0)) "e" "w")), some (.str (eL (decide (p.2.1 < 0)) "s" "n")), some (.str (eL (decide (p.2.1 < 0)) "n" "s")), none, none] ∧ B = B') ?_ ?_
  · exact ws_asg <| we_ifE <| wt_test <| we_op <| we_fy T <| we_var rfl ⟨_, _, _, rfl, we_int <| ro_b0 ⟨_, rfl, fun h => we_tup <| wa_cons <| we_str <| wa_cons <| we_str <| wa_nil ⟨z2, wg_tup rfl <| wgs_cons <| wg_name <| wgs_cons <| wg_name <| wgs_nil ⟨by rw [h]; rfl, rfl⟩⟩, fun h => we_tup <| wa_cons <| we_str <| wa_cons <| we_str <| wa_nil ⟨z2, wg_tup rfl <| wgs_cons <| wg_name <| wgs_cons <| wg_name <| wgs_nil ⟨by rw [h]; rfl, rfl⟩⟩⟩⟩
  rintro _ _ ⟨rfl, rfl⟩
  refine ws_cut (fun ρ' B' => ρ' = [some (pl T p.1 p.2.1 p.2.2), some (.int W), some (.int H'), some (.int (ab p.1)), some (.int (ab p.2.1)), some (.str (eL (decide (p.1 < 0)) "w" "e")), some (.str (eL (decide (p.1 < 0)) "e" "w")), some (.str (eL (decide (p.2.1 < 0)) "s" "n")), some (.str (eL (decide (p.2.1 < 0)) "n" "s")), some (.int (upA p)), none] ∧ B = B') ?_ ?_
  · exact ws_set <| we_ifE <| wt_test <| we_op <| we_op <| we_fx T <| we_var rfl ⟨_, _, _, rfl, we_int <| ro_b0 <| we_op <| we_fy T <| we_var rfl ⟨_, _, _, rfl, we_int <| ro_b0 <| ro_eqB ⟨_, rfl, fun h => we_fa T <| we_var rfl ⟨_, _, _, rfl, by unfold upA; rw [if_pos (of_decide_eq_true h)]; rfl, rfl⟩, fun h => we_neg <| we_fa T <| we_var rfl ⟨_, _, _, rfl, _, rfl, by unfold upA; rw [if_neg (of_decide_eq_false h)]; rfl, rfl⟩⟩⟩⟩
  rintro _ _ ⟨rfl, rfl⟩
  refine ws_seq <| ws_if <| wt_test <| we_op <| we_op <| we_int <| we_var rfl <| ro_i (.inl ⟨by decide +kernel, by decide +kernel⟩) <| we_op <| we_var rfl <| we_var rfl <| ro_i cxy <| ro_b0 ⟨_, rfl, fun h => ?_, fun h => ws_next ?_⟩
  · refine ws_seq <| ws_set <| we_op <| we_op <| we_var rfl <| we_var rfl <| ro_i cxy <| we_var rfl <| ro_i0 ?_
    refine ws_seq <| ws_asg <| we_tup <| wa_cons <| we_var rfl <| wa_cons <| we_var rfl <| wa_cons <| we_var rfl <| wa_cons <| we_var rfl <| wa_nil ⟨Nat.le_of_ble_eq_true rfl, wg_tup rfl <| wgs_cons <| wg_name <| wgs_cons <| wg_name <| wgs_cons <| wg_name <| wgs_cons <| wg_name <| wgs_nil ?_⟩
    refine ws_asg <| we_tup <| wa_cons <| we_var rfl <| wa_cons <| we_var rfl <| wa_cons <| we_var rfl <| wa_cons <| we_var rfl <| wa_nil ⟨Nat.le_of_ble_eq_true rfl, wg_tup rfl <| wgs_cons <| wg_name <| wgs_cons <| wg_name <| wgs_cons <| wg_name <| wgs_cons <| wg_name <| wgs_nil ?_⟩
    refine ws_seq <| ws_set <| we_call <| wa_cons <| we_var rfl <| wa_cons <| we_var rfl <| wa_cons <| we_var rfl <| wa_cons <| we_var rfl <| wa_cons <| we_var rfl <| wa_nil ⟨_, _, _, _, _, rfl, bw, ?_⟩
    refine ws_ret <| we_make <| wa_cons <| we_lst <| wa_cons <| we_tup <| wa_cons <| we_var rfl <| wa_cons <| we_op <| we_var rfl <| we_var rfl <| ro_i0 <| wa_nil ⟨z2, wa_star <| we_var rfl ⟨_, .inl rfl, wa_cons <| we_tup <| wa_cons <| we_var rfl <| wa_cons <| we_op <| we_var rfl <| we_var rfl <| ro_i0 <| wa_nil ⟨z2, wa_nil ⟨?_, wa_nil ⟨_, rfl, .inl ⟨false, false, frameF p W H', ?_, hg, hk⟩⟩⟩⟩⟩⟩
    · rw [List.length_cons, List.length_append, List.length_map]
      have h5 := climb_len H' W (ab p.1 * ab p.2.1 - upA p) (eL (decide (p.2.1 < 0)) "s" "n") (eL (decide (p.1 < 0)) "w" "e")
      show _ + 1 + 1 ≤ 16777216
      omega
    · unfold frameF; rw [if_pos (of_decide_eq_true h), List.map_append, List.map_append]
      rfl
  · refine ws_seq <| ws_set <| we_call <| wa_cons <| we_var rfl <| wa_cons <| we_var rfl <| wa_cons <| we_var rfl <| wa_cons <| we_var rfl <| wa_cons <| we_var rfl <| wa_nil ⟨_, _, _, _, _, rfl, bh, ?_⟩
    refine ws_ret <| we_make <| wa_cons <| we_lst <| wa_cons <| we_tup <| wa_cons <| we_var rfl <| wa_cons <| we_op <| we_var rfl <| we_var rfl <| ro_i0 <| wa_nil ⟨z2, wa_star <| we_var rfl ⟨_, .inl rfl, wa_cons <| we_tup <| wa_cons <| we_var rfl <| wa_cons <| we_op <| we_var rfl <| we_var rfl <| ro_i0 <| wa_nil ⟨z2, wa_nil ⟨?_, wa_nil ⟨_, rfl, .inl ⟨false, false, frameF p W H', ?_, hg, hk⟩⟩⟩⟩⟩⟩
    · rw [List.length_cons, List.length_append, List.length_map]
      have h5 := climb_len W H' (upA p) (eL (decide (p.1 < 0)) "w" "e") (eL (decide (p.2.1 < 0)) "s" "n")
      show _ + 1 + 1 ≤ 16777216
      omega
    · unfold frameF; rw [if_neg (of_decide_eq_false h), List.map_append, List.map_append]
      rfl
end
end AW

set_option linter.all false
set_option maxRecDepth 100000
set_option maxHeartbeats 8000000
namespace AW
open PySem PySem.Spec PyProof.Rows L2 Fewest
variable [Tbs]
section
variable {P : Program} {w : World} {K : PySem.W.Frag} {mg : Str → Option Value} {base : Heap} [CDict K w "DIRECTIONS" L_DIRECTIONS]
abbrev plT (T : Tx K mg) (p : T3) : D := pl T p.1 p.2.1 p.2.2
noncomputable def stF (p : T3) : Int := (st_ex p.1 p.2.1 p.2.2).choose
theorem stF_st (p : T3) : St p.1 p.2.1 p.2.2 (stF p) := (st_ex p.1 p.2.1 p.2.2).choose_spec
theorem stF_eq {p : T3} {n : Int} (h : St p.1 p.2.1 p.2.2 n) : stF p = n := St.uniq (stF_st p) h
def pr_fewest_steps (T : Tx K mg) : Pr := fun ds B k e => ∃ p : T3, ds = [plT T p] ∧ Bd 3000 p.1 ∧ Bd 3000 p.2.1 ∧ Bd 3000 p.2.2 ∧ k (.int (stF p)) B
theorem okD_fewest_steps (T : Tx K mg) : FnOk P w K mg base (L2.CX P w) 2 T.a_fewest_steps T.d_fewest_steps P_fewest_steps (spD K (pr_fewest_steps T)) :=
  (ok_fewest_steps T).imp fun vs H Q E ⟨G, ds, B, k, e, hs, hr, ⟨p, ed, bx, by', ba, h⟩, hk, hx⟩ => by
    subst ed
    obtain ⟨v, _, rfl, rv, rfl⟩ := hr
    obtain ⟨a, rfl, hp⟩ := rv.pl
    exact ⟨a, p.1, p.2.1, p.2.2, rfl, hp.sub hs, bx, by', ba, fun m hm => by rw [← stF_eq hm]; exact hk _ _ _ _ _ h (Ext.refl hs) rfl⟩
def pr_steps (T : Tx K mg) : Pr := fun ds B k e => ∃ d, ds = [d] ∧ ((∃ p : T3, d = plT T p ∧ Bd 3000 p.1 ∧ Bd 3000 p.2.1 ∧ Bd 3000 p.2.2 ∧ k (.int (stF p)) B) ∨ (plainD d = true ∧ e T.C_BadPlace (some ((["value"] : List Str), [d])) B))
theorem okD_steps (T : Tx K mg) : FnOk P w K mg base (L2.CX P w) 4 T.a_steps T.d_steps P_steps (spD K (pr_steps T)) := by
  refine T.F_steps.okX sc_steps (spD_len fun ds B k e h => by obtain ⟨d, rfl, hk⟩ := h; rfl) (fun cdv A outer s H vs Q E hr h => ?_)
  have G_check_place : FnOk P w K mg base (L2.CX P w) _ _ _ _ _ := okD_check_place T
  have G_fewest_steps : FnOk P w K mg base (L2.CX P w) 2 _ _ _ _ := okD_fewest_steps T
  obtain ⟨G, ds, B, k, e, hs, hR, ⟨d, rfl, hk⟩, hK, hX⟩ := h
  refine ⟨_, (pss_cons (ps_expr (pe_call G_check_place (hr.mono (by decide)) (by rfl) T.g_check_place T.F_check_place.kp T.b_check_place .nil (passE (E := E)) (pa_cons (pv 0) pa_nil)))
 (pss_one (ps_ret (pe_call G_fewest_steps (hr.mono (by decide)) (by rfl) T.g_fewest_steps T.F_fewest_steps.kp T.b_fewest_steps .nil (passE (E := E)) (pa_cons (pv 0) pa_nil))))), run_body (ρ := [some d]) hs hR hK hX rfl ?_⟩
  rcases hk with ⟨p, rfl, b1, b2, b3, hk⟩ | ⟨pd, he⟩
  · refine ws_seq <| ws_drop <| we_callE <| wa_cons <| we_var rfl <| wa_nil ⟨_, rfl, .inl ⟨_, _, _, rfl, ?_⟩⟩
    exact ws_ret <| we_call <| wa_cons <| we_var rfl <| wa_nil ⟨p, rfl, b1, b2, b3, hk⟩
  · exact ws_seq <| ws_drop <| we_callE <| wa_cons <| we_var rfl <| wa_nil ⟨_, rfl, .inr ⟨pd, he⟩⟩
def pr_distance (T : Tx K mg) : Pr := fun ds B k e => ∃ d1 d2, ds = [d1, d2] ∧ ((∃ p q : T3, d1 = plT T p ∧ d2 = plT T q ∧ (Bd 1400 p.1 ∧ Bd 1400 p.2.1 ∧ Bd 2900 p.2.2) ∧ (Bd 1400 q.1 ∧ Bd 1400 q.2.1 ∧ Bd 2900 q.2.2) ∧ k (.int (stF (-p.1 + q.1, -p.2.1 + q.2.1, p.1 * p.2.1 - p.2.2 + q.2.2 + -p.1 * q.2.1))) B) ∨
  (plainD d1 = true ∧ e T.C_BadPlace (some ((["value"] : List Str), [d1])) B) ∨ (∃ p : T3, d1 = plT T p ∧ plainD d2 = true ∧ e T.C_BadPlace (some ((["value"] : List Str), [d2])) B))
theorem okD_distance (T : Tx K mg) : FnOk P w K mg base (L2.CX P w) 8 T.a_distance T.d_distance P_distance (spD K (pr_distance T)) := by
  refine T.F_distance.okX sc_distance (spD_len fun ds B k e h => by obtain ⟨d1, d2, rfl, hk⟩ := h; rfl) (fun cdv A outer s H vs Q E hr h => ?_)
  have G_Place_invert : FnOk P w K mg base (L2.CX P w) 6 _ _ _ _ := okD_Place_invert T
  have G_Place_mul : FnOk P w K mg base (L2.CX P w) 6 _ _ _ _ := okD_Place_mul T
  have G_check_place : FnOk P w K mg base (L2.CX P w) _ _ _ _ _ := okD_check_place T
  have G_fewest_steps : FnOk P w K mg base (L2.CX P w) 2 _ _ _ _ := okD_fewest_steps T
  obtain ⟨G, ds, B, k, e, hs, hR, ⟨d1, d2, rfl, hk⟩, hK, hX⟩ := h
  refine ⟨_, (pss_cons (ps_expr (pe_call G_check_place (hr.mono (by decide)) (by rfl) T.g_check_place T.F_check_place.kp T.b_check_place .nil (passE (E := E)) (pa_cons (pv 0) pa_nil)))
 (pss_cons (ps_expr (pe_call G_check_place (hr.mono (by decide)) (by rfl) T.g_check_place T.F_check_place.kp T.b_check_place .nil (passE (E := E)) (pa_cons (pv 1) pa_nil)))
 (pss_one (ps_ret (pe_call G_fewest_steps (hr.mono (by decide)) (by rfl) T.g_fewest_steps T.F_fewest_steps.kp T.b_fewest_steps .nil (passE (E := E)) (pa_cons (pe_op (op_ownO T.O_Place_Mult G_Place_mul (hr.mono (by decide)) T.b_Place_mul (passE (E := E))) (pe_un (un_invO T.m_Place_invert T.i_Place_invert G_Place_invert (hr.mono (by decide)) T.b_Place_invert (passE (E := E))) (pv 0)) (pv 1)) pa_nil)))))), run_body (ρ := [some d1, some d2]) hs hR hK hX rfl ?_⟩
  rcases hk with ⟨p, q, rfl, rfl, hp, hq, hk⟩ | ⟨pd, he⟩ | ⟨p, rfl, pd, he⟩
  · refine ws_seq <| ws_drop <| we_callE <| wa_cons <| we_var rfl <| wa_nil ⟨_, rfl, .inl ⟨_, _, _, rfl, ?_⟩⟩
    refine ws_seq <| ws_drop <| we_callE <| wa_cons <| we_var rfl <| wa_nil ⟨_, rfl, .inl ⟨_, _, _, rfl, ?_⟩⟩
    have c1 : CMulW p.1 p.2.1 := cmw (hp.1.mono (by decide)) (hp.2.1.mono (by decide))
    have c2 : CMulW (-p.1) q.2.1 := cmw (hp.1.neg.mono (by decide)) (hq.2.1.mono (by decide))
    refine ws_ret <| we_call <| wa_cons <| we_op <| we_inv T <| we_var rfl ⟨_, _, _, rfl, _, _, _, rfl, c1, we_var rfl <| ro_own T ⟨_, _, _, _, _, _, rfl, c2, wa_nil ⟨(-p.1 + q.1, -p.2.1 + q.2.1, p.1 * p.2.1 - p.2.2 + q.2.2 + -p.1 * q.2.1), rfl, ?_, ?_, ?_, hk⟩⟩⟩
    · exact (Bd.add hp.1.neg hq.1).mono (by decide)
    · exact (Bd.add hp.2.1.neg hq.2.1).mono (by decide)
    · exact (Bd.add (Bd.add (Bd.sub ((hp.1.mul hp.2.1).mono (by decide : 1400 + 1400 ≤ 2900)) hp.2.2) (hq.2.2.mono (by decide : 2900 ≤ 2900 + 1))) ((hp.1.neg.mul hq.2.1).mono (by decide : 1400 + 1400 ≤ 2900 + 1 + 1))).mono (by decide)
  · exact ws_seq <| ws_drop <| we_callE <| wa_cons <| we_var rfl <| wa_nil ⟨_, rfl, .inr ⟨pd, he⟩⟩
  · refine ws_seq <| ws_drop <| we_callE <| wa_cons <| we_var rfl <| wa_nil ⟨_, rfl, .inl ⟨_, _, _, rfl, ?_⟩⟩
    exact ws_seq <| ws_drop <| we_callE <| wa_cons <| we_var rfl <| wa_nil ⟨_, rfl, .inr ⟨pd, he⟩⟩
def pr_best_sides (T : Tx K mg) : Pr := fun ds B k e => ∃ X Y s : Int, ds = [.int X, .int Y, .int s] ∧ k (.tup [.int (bestW X Y s), .int (X + Y + s - bestW X Y s)]) B
theorem okD_best_sides (T : Tx K mg) : FnOk P w K mg base (L2.CX P w) 1 T.a_best_sides T.d_best_sides P_best_sides (spD K (pr_best_sides T)) :=
  (ok_best_sides T).imp fun vs H Q E ⟨G, ds, B, k, e, hs, hr, ⟨X, Y, s, ed, h⟩, hk, hx⟩ => by
    subst ed
    obtain ⟨_, _, rfl, r1, _, _, rfl, r2, _, _, rfl, r3, rfl⟩ := hr
    rw [show _ = V.int X from r1, show _ = V.int Y from r2, show _ = V.int s from r3]
    have hex : ∀ H', Same H H' → Ext G H B G H' B := fun H' s => ⟨Le.refl _ _, fun a o z => s _ _ (hs _ _ z), fun a o z m _ => ⟨s _ _ z, m⟩⟩
    refine ⟨X, Y, s, rfl, fun t H' sm ht => ?_⟩
    have eL := Ext.learn (B := B) (hex H' sm).sub ht
    exact hk _ _ _ _ _ h ((hex H' sm).trans eL) ⟨t, _, rfl, SqT.of upd_same, _, _, rfl, rfl, _, _, rfl, rfl, rfl⟩
def pr_spare_steps (T : Tx K mg) : Pr := fun ds B k e => ∃ x y n s : Int, ds = [.int x, .int y, .int n] ∧ 0 ≤ s ∧ n - ab x - ab y = 2 * s ∧ k (.int s) B
theorem okD_spare_steps (T : Tx K mg) : FnOk P w K mg base (L2.CX P w) 1 T.a_spare_steps T.d_spare_steps P_spare_steps (spD K (pr_spare_steps T)) :=
  (ok_spare_steps T).imp fun vs H Q E ⟨G, ds, B, k, e, hs, hr, ⟨x, y, n, s, ed, s0, es, h⟩, hk, hx⟩ => by
    subst ed
    obtain ⟨_, _, rfl, r1, _, _, rfl, r2, _, _, rfl, r3, rfl⟩ := hr
    rw [show _ = V.int x from r1, show _ = V.int y from r2, show _ = V.int n from r3]
    refine ⟨x, y, n, rfl, fun c => by omega, fun s' z1 z2 => ?_⟩
    have e2 : s' = s := by omega
    subst e2
    exact hk _ _ _ _ _ h (Ext.refl hs) rfl
end
end AW

set_option linter.all false
set_option maxRecDepth 100000
set_option maxHeartbeats 8000000
namespace AW
open PySem PySem.Spec PyProof.Rows L2 Fewest
variable [Tbs]
section
variable {P : Program} {w : World} {K : PySem.W.Frag} {mg : Str → Option Value} {base : Heap} [CDict K w "DIRECTIONS" L_DIRECTIONS]
theorem ab_ab (x : Int) : ab (ab x) = ab x := by unfold ab; omega
/-- the sides of the box that a walk of n steps runs around -/
def bxW (p : T3) (n : Int) : Int := bestW (ab p.1) (ab p.2.1) ((n - ab p.1 - ab p.2.1) / 2)
def bxH (p : T3) (n : Int) : Int := ab p.1 + ab p.2.1 + (n - ab p.1 - ab p.2.1) / 2 - bxW p n
def pr_built_walk (T : Tx K mg) : Pr := fun ds B k e => ∃ (p : T3) (n : Int), ds = [plT T p, .int n] ∧ ab p.1 + ab p.2.1 ≤ n ∧ (n - ab p.1 - ab p.2.1) % 2 = 0 ∧ Bd 3000 p.1 ∧ Bd 3000 p.2.1 ∧ Bd 8000 (bxW p n) ∧ Bd 8000 (bxH p n) ∧ TdOk (frameF p (bxW p n) (bxH p n)) ∧ k (wkD T (joinF (frameF p (bxW p n) (bxH p n)))) B
theorem okD_built_walk (T : Tx K mg) : FnOk P w K mg base (L2.CX P w) 8 T.a_built_walk T.d_built_walk P_built_walk (spD K (pr_built_walk T)) := by
  refine T.F_built_walk.okX sc_built_walk (spD_len fun ds B k e h => by obtain ⟨p, n, rfl, h0, hp, bx, by', bw, bh, hg, hk⟩ := h; rfl) (fun cdv A outer s H vs Q E hr h => ?_)
  have G_best_sides : FnOk P w K mg base (L2.CX P w) 1 _ _ _ _ := okD_best_sides T
  have G_framed_walk : FnOk P w K mg base (L2.CX P w) 7 _ _ _ _ := okD_framed_walk T
  have G_spare_steps : FnOk P w K mg base (L2.CX P w) 1 _ _ _ _ := okD_spare_steps T
  obtain ⟨G, ds, B, k, e, hs, hR, ⟨p, n, rfl, h0, hp, bx, by', bw, bh, hg, hk⟩, hK, hX⟩ := h
  refine ⟨_, (pss_cons (ps_par (i := 2) (j := 3) (by rfl) sc_built_walk.nd rfl rfl (by decide) rfl rfl (pa_cons (pe_callB call_abs (by rfl) T.n_abs (by decide +kernel) (pa_cons (pe_fld (pv 0) rfl) pa_nil)) (pa_cons (pe_callB call_abs (by rfl) T.n_abs (by decide +kernel) (pa_cons (pe_fld (pv 0) rfl) pa_nil)) pa_nil)) (by rfl))
 (pss_cons (ps_asg (pe_call G_best_sides (hr.mono (by decide)) (by rfl) T.g_best_sides T.F_best_sides.kp T.b_best_sides .nil passL (pa_cons (pv 2) (pa_cons (pv 3) (pa_cons (pe_call G_spare_steps (hr.mono (by decide)) (by rfl) T.g_spare_steps T.F_spare_steps.kp T.b_spare_steps .nil passL (pa_cons (pv 2) (pa_cons (pv 3) (pa_cons (pv 1) pa_nil)))) pa_nil)))) (pg_tup rfl (pgs_cons (pg_name (i := 4) sc_built_walk.nd rfl (.inl rfl)) (pgs_cons (pg_name (i := 5) sc_built_walk.nd rfl (.inl rfl)) pgs_nil))))
 (pss_one (ps_ret (pe_call G_framed_walk (hr.mono (by decide)) (by rfl) T.g_framed_walk T.F_framed_walk.kp T.b_framed_walk .nil passL (pa_cons (pv 0) (pa_cons (pv 4) (pa_cons (pv 5) pa_nil)))))))), run_body (ρ := [some (plT T p), some (.int n), none, none, none, none]) hs hR hK hX rfl ?_⟩
  refine ws_seq <| ws_par <| wa_cons <| we_abs <| wa_cons <| we_fx T <| we_var rfl ⟨_, _, _, rfl, wa_nil ⟨_, rfl, wa_cons <| we_abs <| wa_cons <| we_fy T <| we_var rfl ⟨_, _, _, rfl, wa_nil ⟨_, rfl, wa_nil ⟨_, _, rfl, ?_⟩⟩⟩⟩⟩
  rw [ab_if, ab_if]
  refine ws_seq <| ws_asg <| we_call <| wa_cons <| we_var rfl <| wa_cons <| we_var rfl <| wa_cons <| we_call <| wa_cons <| we_var rfl <| wa_cons <| we_var rfl <| wa_cons <| we_var rfl <| wa_nil ⟨ab p.1, ab p.2.1, n, (n - ab p.1 - ab p.2.1) / 2, rfl, by omega, by rw [ab_ab, ab_ab]; omega, wa_nil ⟨_, _, _, rfl, wg_tup rfl <| wgs_cons <| wg_name <| wgs_cons <| wg_name <| wgs_nil ?_⟩⟩
  exact ws_ret <| we_call <| wa_cons <| we_var rfl <| wa_cons <| we_var rfl <| wa_cons <| we_var rfl <| wa_nil ⟨p, _, _, rfl, bx, by', bw, bh, hg, hk⟩
def pr_least_walk (T : Tx K mg) : Pr := fun ds B k e => ∃ p : T3, ds = [plT T p] ∧ (Bd 3000 p.1 ∧ Bd 3000 p.2.1 ∧ Bd 3000 p.2.2) ∧ ab p.1 + ab p.2.1 ≤ stF p ∧ (stF p - ab p.1 - ab p.2.1) % 2 = 0 ∧ Bd 8000 (bxW p (stF p)) ∧ Bd 8000 (bxH p (stF p)) ∧ TdOk (frameF p (bxW p (stF p)) (bxH p (stF p))) ∧ k (wkD T (joinF (frameF p (bxW p (stF p)) (bxH p (stF p))))) B
theorem okD_least_walk (T : Tx K mg) : FnOk P w K mg base (L2.CX P w) 9 T.a_least_walk T.d_least_walk P_least_walk (spD K (pr_least_walk T)) := by
  refine T.F_least_walk.okX sc_least_walk (spD_len fun ds B k e h => by obtain ⟨p, rfl, ⟨b1, b2, b3⟩, h0, hp, bw, bh, hg, hk⟩ := h; rfl) (fun cdv A outer s H vs Q E hr h => ?_)
  have G_built_walk : FnOk P w K mg base (L2.CX P w) 8 _ _ _ _ := okD_built_walk T
  have G_check_place : FnOk P w K mg base (L2.CX P w) _ _ _ _ _ := okD_check_place T
  have G_fewest_steps : FnOk P w K mg base (L2.CX P w) 2 _ _ _ _ := okD_fewest_steps T
  obtain ⟨G, ds, B, k, e, hs, hR, ⟨p, rfl, ⟨b1, b2, b3⟩, h0, hp, bw, bh, hg, hk⟩, hK, hX⟩ := h
  refine ⟨_, (pss_cons (ps_expr (pe_call G_check_place (hr.mono (by decide)) (by rfl) T.g_check_place T.F_check_place.kp T.b_check_place .nil passL (pa_cons (pv 0) pa_nil)))
 (pss_one (ps_ret (pe_call G_built_walk (hr.mono (by decide)) (by rfl) T.g_built_walk T.F_built_walk.kp T.b_built_walk .nil passL (pa_cons (pv 0) (pa_cons (pe_call G_fewest_steps (hr.mono (by decide)) (by rfl) T.g_fewest_steps T.F_fewest_steps.kp T.b_fewest_steps .nil passL (pa_cons (pv 0) pa_nil)) pa_nil)))))), run_body (ρ := [some (plT T p)]) hs hR hK hX rfl ?_⟩
  refine ws_seq <| ws_drop <| we_call <| wa_cons <| we_var rfl <| wa_nil ⟨_, rfl, .inl ⟨_, _, _, rfl, ?_⟩⟩
  exact ws_ret <| we_call <| wa_cons <| we_var rfl <| wa_cons <| we_call <| wa_cons <| we_var rfl <| wa_nil ⟨p, rfl, b1, b2, b3, wa_nil ⟨p, stF p, rfl, h0, hp, b1, b2, bw, bh, hg, hk⟩⟩
end
end AW

set_option linter.all false
set_option maxRecDepth 100000
set_option maxHeartbeats 8000000
namespace AW
open PySem PySem.Spec PyProof.Rows L2 Fewest
variable [Tbs]
section
variable {P : Program} {w : World} {K : PySem.W.Frag} {mg : Str → Option Value} {base : Heap} [CDict K w "DIRECTIONS" L_DIRECTIONS]
abbrev apF (p q : T3) : T3 := (-p.1 + q.1, -p.2.1 + q.2.1, p.1 * p.2.1 - p.2.2 + q.2.2 + -p.1 * q.2.1)
def Bd3 (p : T3) : Prop := Bd 1400 p.1 ∧ Bd 1400 p.2.1 ∧ Bd 2900 p.2.2
def pr_lies_between (T : Tx K mg) : Pr := fun ds B k e => ∃ d1 d2 d3, ds = [d1, d2, d3] ∧ ((∃ p q r : T3, d1 = plT T p ∧ d2 = plT T q ∧ d3 = plT T r ∧ Bd3 p ∧ Bd3 q ∧ Bd3 r ∧ k (.bl (decide (stF (apF q p) + stF (apF p r) = stF (apF q r)))) B) ∨
  (plainD d1 = true ∧ e T.C_BadPlace (some ((["value"] : List Str), [d1])) B) ∨ (∃ p : T3, d1 = plT T p ∧ plainD d2 = true ∧ e T.C_BadPlace (some ((["value"] : List Str), [d2])) B) ∨ (∃ p q : T3, d1 = plT T p ∧ d2 = plT T q ∧ plainD d3 = true ∧ e T.C_BadPlace (some ((["value"] : List Str), [d3])) B))
theorem okD_lies_between (T : Tx K mg) : FnOk P w K mg base (L2.CX P w) 9 T.a_lies_between T.d_lies_between P_lies_between (spD K (pr_lies_between T)) := by
  refine T.F_lies_between.okX sc_lies_between (spD_len fun ds B k e h => by obtain ⟨d1, d2, d3, rfl, hk⟩ := h; rfl) (fun cdv A outer s H vs Q E hr h => ?_)
  have G_check_place : FnOk P w K mg base (L2.CX P w) _ _ _ _ _ := okD_check_place T
  have G_distance : FnOk P w K mg base (L2.CX P w) 8 _ _ _ _ := okD_distance T
  obtain ⟨G, ds, B, k, e, hs, hR, ⟨d1, d2, d3, rfl, hk⟩, hK, hX⟩ := h
  refine ⟨_, (pss_cons (ps_for (passes_of rfl) rfl (pi_tup (pe_tup (pa_cons (pv 0) (pa_cons (pv 1) (pa_cons (pv 2) pa_nil))))) (pg_name (i := 3) sc_lies_between.nd rfl (.inl rfl))
 (pss_one (ps_expr (pe_call G_check_place (hr.mono (by decide)) (by rfl) T.g_check_place T.F_check_place.kp T.b_check_place .nil (passE (E := E)) (pa_cons (pv 3) pa_nil)))))
 (pss_one (ps_ret (pe_cmpR op_eq (pe_op op_add (pe_call G_distance (hr.mono (by decide)) (by rfl) T.g_distance T.F_distance.kp T.b_distance .nil (passE (E := E)) (pa_cons (pv 1) (pa_cons (pv 0) pa_nil))) (pe_call G_distance (hr.mono (by decide)) (by rfl) T.g_distance T.F_distance.kp T.b_distance .nil (passE (E := E)) (pa_cons (pv 0) (pa_cons (pv 2) pa_nil)))) (pe_call G_distance (hr.mono (by decide)) (by rfl) T.g_distance T.F_distance.kp T.b_distance .nil (passE (E := E)) (pa_cons (pv 1) (pa_cons (pv 2) pa_nil))) (nomark _))))), run_body (ρ := [some d1, some d2, some d3, none]) hs hR hK hX rfl ?_⟩
  have z3 : 3 ≤ sizeLine := by decide
  rcases hk with ⟨p, q, r, rfl, rfl, rfl, hp, hq, hr', hk⟩ | ⟨pd, he⟩ | ⟨p, rfl, pd, he⟩ | ⟨p, q, rfl, rfl, pd, he⟩
  · refine ws_seq <| ws_for_tup <| we_tup <| wa_cons <| we_var rfl <| wa_cons <| we_var rfl <| wa_cons <| we_var rfl <| wa_nil ⟨z3, _, rfl, fun i ρ' B' => (∃ o3 : Option D, ρ' = [some (plT T p), some (plT T q), some (plT T r), o3]) ∧ B = B' ∧ i ≤ 3, ⟨⟨_, rfl⟩, rfl, Nat.zero_le _⟩, fun i d ρ' B' hi hI => ?_, fun ρ' B' hI => ?_⟩
    · obtain ⟨⟨o3, rfl⟩, rfl, hij⟩ := hI
      refine wg_name ?_
      rcases i with _ | _ | _ | i
      · cases hi
        exact ws_drop <| we_callE <| wa_cons <| we_var rfl <| wa_nil ⟨_, rfl, .inl ⟨_, _, _, rfl, ⟨⟨_, rfl⟩, rfl, by omega⟩⟩⟩
      · cases hi
        exact ws_drop <| we_callE <| wa_cons <| we_var rfl <| wa_nil ⟨_, rfl, .inl ⟨_, _, _, rfl, ⟨⟨_, rfl⟩, rfl, by omega⟩⟩⟩
      · cases hi
        exact ws_drop <| we_callE <| wa_cons <| we_var rfl <| wa_nil ⟨_, rfl, .inl ⟨_, _, _, rfl, ⟨⟨_, rfl⟩, rfl, by omega⟩⟩⟩
      · cases hi
    obtain ⟨⟨o3, rfl⟩, rfl, _⟩ := hI
    refine ws_ret <| we_op <| we_op <| we_callE <| wa_cons <| we_var rfl <| wa_cons <| we_var rfl <| wa_nil ⟨_, _, rfl, .inl ⟨q, p, rfl, rfl, hq, hp, ?_⟩⟩
    refine we_callE <| wa_cons <| we_var rfl <| wa_cons <| we_var rfl <| wa_nil ⟨_, _, rfl, .inl ⟨p, r, rfl, rfl, hp, hr', ro_i0 ?_⟩⟩
    exact we_callE <| wa_cons <| we_var rfl <| wa_cons <| we_var rfl <| wa_nil ⟨_, _, rfl, .inl ⟨q, r, rfl, rfl, hq, hr', ro_eqI hk⟩⟩
  · refine ws_seq <| ws_for_tup <| we_tup <| wa_cons <| we_var rfl <| wa_cons <| we_var rfl <| wa_cons <| we_var rfl <| wa_nil ⟨z3, _, rfl, fun i ρ' B' => (∃ o3 : Option D, ρ' = [some (d1), some (d2), some (d3), o3]) ∧ B = B' ∧ i ≤ 0, ⟨⟨_, rfl⟩, rfl, Nat.zero_le _⟩, fun i d ρ' B' hi hI => ?_, fun ρ' B' hI => ?_⟩
    · obtain ⟨⟨o3, rfl⟩, rfl, hij⟩ := hI
      refine wg_name ?_
      rcases i with _ | _ | _ | i
      · cases hi
        exact ws_drop <| we_callE <| wa_cons <| we_var rfl <| wa_nil ⟨_, rfl, .inr ⟨pd, he⟩⟩
      · cases hi
        omega
      · cases hi
        omega
      · cases hi
    obtain ⟨_, _, hij⟩ := hI
    have hij : 3 ≤ _ := hij
    omega
  · refine ws_seq <| ws_for_tup <| we_tup <| wa_cons <| we_var rfl <| wa_cons <| we_var rfl <| wa_cons <| we_var rfl <| wa_nil ⟨z3, _, rfl, fun i ρ' B' => (∃ o3 : Option D, ρ' = [some (plT T p), some (d2), some (d3), o3]) ∧ B = B' ∧ i ≤ 1, ⟨⟨_, rfl⟩, rfl, Nat.zero_le _⟩, fun i d ρ' B' hi hI => ?_, fun ρ' B' hI => ?_⟩
    · obtain ⟨⟨o3, rfl⟩, rfl, hij⟩ := hI
      refine wg_name ?_
      rcases i with _ | _ | _ | i
      · cases hi
        exact ws_drop <| we_callE <| wa_cons <| we_var rfl <| wa_nil ⟨_, rfl, .inl ⟨_, _, _, rfl, ⟨⟨_, rfl⟩, rfl, by omega⟩⟩⟩
      · cases hi
        exact ws_drop <| we_callE <| wa_cons <| we_var rfl <| wa_nil ⟨_, rfl, .inr ⟨pd, he⟩⟩
      · cases hi
        omega
      · cases hi
    obtain ⟨_, _, hij⟩ := hI
    have hij : 3 ≤ _ := hij
    omega
  · refine ws_seq <| ws_for_tup <| we_tup <| wa_cons <| we_var rfl <| wa_cons <| we_var rfl <| wa_cons <| we_var rfl <| wa_nil ⟨z3, _, rfl, fun i ρ' B' => (∃ o3 : Option D, ρ' = [some (plT T p), some (plT T q), some (d3), o3]) ∧ B = B' ∧ i ≤ 2, ⟨⟨_, rfl⟩, rfl, Nat.zero_le _⟩, fun i d ρ' B' hi hI => ?_, fun ρ' B' hI => ?_⟩
    · obtain ⟨⟨o3, rfl⟩, rfl, hij⟩ := hI
      refine wg_name ?_
      rcases i with _ | _ | _ | i
      · cases hi
        exact ws_drop <| we_callE <| wa_cons <| we_var rfl <| wa_nil ⟨_, rfl, .inl ⟨_, _, _, rfl, ⟨⟨_, rfl⟩, rfl, by omega⟩⟩⟩
      · cases hi
        exact ws_drop <| we_callE <| wa_cons <| we_var rfl <| wa_nil ⟨_, rfl, .inl ⟨_, _, _, rfl, ⟨⟨_, rfl⟩, rfl, by omega⟩⟩⟩
      · cases hi
        exact ws_drop <| we_callE <| wa_cons <| we_var rfl <| wa_nil ⟨_, rfl, .inr ⟨pd, he⟩⟩
      · cases hi
    obtain ⟨_, _, hij⟩ := hI
    have hij : 3 ≤ _ := hij
    omega
end
end AW

set_option linter.all false
set_option maxRecDepth 100000
set_option maxHeartbeats 8000000
namespace AW
open PySem PySem.Spec PyProof.Rows L2 Fewest
variable [Tbs]
section
theorem dxdy (c : Str) : dx c * dy c = 0 := by
  unfold dx dy
  by_cases h1 : c = "e"
  · subst h1; decide +kernel
  · by_cases h2 : c = "w"
    · subst h2; decide +kernel
    · rw [if_neg h1, if_neg h2, Int.zero_mul]
theorem cStep0 (s : T3) (c : Str) : cStep s (c, 0) = s := by
  obtain ⟨x, y, z⟩ := s
  simp [cStep]
theorem cStep_add (s : T3) (c : Str) (a b : Int) : cStep (cStep s (c, a)) (c, b) = cStep s (c, a + b) := by
  obtain ⟨x, y, z⟩ := s
  have h := dxdy c
  simp only [cStep, Prod.mk.injEq]
  refine ⟨by rw [Int.mul_add]; omega, by rw [Int.mul_add]; omega, ?_⟩
  have e1 : (x + dx c * a) * dy c * b = x * dy c * b + dx c * dy c * a * b := by
    rw [Int.add_mul, Int.add_mul, Int.mul_assoc (dx c) a (dy c), Int.mul_comm a (dy c), ← Int.mul_assoc]
  rw [e1, h, Int.mul_add]
  simp only [Int.zero_mul]
  omega
theorem posF_snoc (ps : List Rn) (p : Rn) : posF (ps ++ [p]) = cStep (posF ps) p := by
  unfold posF
  rw [List.foldl_append]
  rfl
/-- what the state of joined_runs stands for -/
def jVal (s : List Rn × Str × Int) : T3 := cStep (posF s.1) (s.2.1, s.2.2)
def jSum (s : List Rn × Str × Int) : Int := (s.1.map (·.2)).sum + s.2.2
theorem jStep_val {s : List Rn × Str × Int} {p : Rn} (h0 : 0 ≤ s.2.2) (hp : 0 ≤ p.2) : jVal (jStep s p) = cStep (jVal s) p ∧ jSum (jStep s p) = jSum s + p.2 ∧ 0 ≤ (jStep s p).2.2 := by
  obtain ⟨rs, l, c⟩ := s
  obtain ⟨q, t⟩ := p
  have h0 : 0 ≤ c := h0
  have hp : 0 ≤ t := hp
  unfold jStep
  by_cases h1 : t = 0
  · subst h1
    rw [if_pos rfl]
    exact ⟨(cStep0 _ _).symm, by simp, h0⟩
  · rw [if_neg h1]
    by_cases h2 : q = l
    · subst h2
      rw [if_pos rfl]
      refine ⟨(cStep_add _ _ _ _).symm, ?_, by show 0 ≤ c + t; omega⟩
      show (rs.map (·.2)).sum + (c + t) = (rs.map (·.2)).sum + c + t
      omega
    · rw [if_neg h2]
      by_cases h3 : c > 0
      · rw [if_pos h3]
        refine ⟨?_, ?_, hp⟩
        · show cStep (posF (rs ++ [(l, c)])) (q, t) = _
          rw [posF_snoc]; rfl
        · show ((rs ++ [(l, c)]).map (·.2)).sum + t = _
          rw [List.map_append, List.sum_append]
          show (rs.map (·.2)).sum + (c + 0) + t = (rs.map (·.2)).sum + c + t
          omega
      · rw [if_neg h3]
        obtain rfl : c = 0 := by omega
        refine ⟨?_, ?_, hp⟩
        · show cStep (posF rs) (q, t) = cStep (cStep (posF rs) (l, 0)) (q, t)
          rw [cStep0]
        · show (rs.map (·.2)).sum + t = (rs.map (·.2)).sum + 0 + t
          omega
theorem jFold_val : ∀ (ps : List Rn) (s : List Rn × Str × Int), 0 ≤ s.2.2 → (∀ p ∈ ps, 0 ≤ p.2) → jVal (ps.foldl jStep s) = ps.foldl cStep (jVal s) ∧ jSum (ps.foldl jStep s) = jSum s + (ps.map (·.2)).sum ∧ 0 ≤ (ps.foldl jStep s).2.2
  | [], s, h, _ => ⟨rfl, by simp, h⟩
  | p :: ps, s, h, hp => by
    obtain ⟨e1, e2, e3⟩ := jStep_val h (hp p (List.mem_cons_self ..))
    obtain ⟨f1, f2, f3⟩ := jFold_val ps (jStep s p) e3 fun q hq => hp q (List.mem_cons_of_mem _ hq)
    rw [List.foldl_cons, List.foldl_cons, List.map_cons, List.sum_cons]
    exact ⟨by rw [f1, e1], by rw [f2, e2]; omega, f3⟩
/-- joined runs lead where the pairs lead, and are as long -/
theorem joinF_val {ps : List Rn} (h : ∀ p ∈ ps, 0 ≤ p.2) : posF (joinF ps) = posF ps ∧ ((joinF ps).map (·.2)).sum = (ps.map (·.2)).sum := by
  obtain ⟨f1, f2, f3⟩ := jFold_val ps ([], "", 0) (Int.le_refl _) h
  have f1 : jVal (ps.foldl jStep ([], "", 0)) = posF ps := by
    rw [f1]
    show ps.foldl cStep (cStep (0, 0, 0) ("", 0)) = _
    rw [cStep0]; rfl
  have f2 : jSum (ps.foldl jStep ([], "", 0)) = (ps.map (·.2)).sum := by
    rw [f2]
    show (0 : Int) + 0 + _ = _
    omega
  unfold joinF
  generalize ps.foldl jStep ([], "", 0) = s at f1 f2 f3 ⊢
  unfold jEnd
  by_cases h3 : s.2.2 > 0
  · rw [if_pos h3, posF_snoc, List.map_append, List.sum_append]
    refine ⟨f1, ?_⟩
    show (s.1.map (·.2)).sum + (s.2.2 + 0) = _
    unfold jSum at f2
    omega
  · rw [if_neg h3]
    have hz : s.2.2 = 0 := by omega
    unfold jVal at f1
    unfold jSum at f2
    rw [hz, cStep0] at f1
    exact ⟨f1, by omega⟩
end
end AW

set_option linter.all false
set_option maxHeartbeats 2000000
namespace AW
open PySem PySem.Spec PyProof.Rows L2 Fewest
variable [Tbs]
theorem frame_pos1 {e n s w : Str} {se sn : Int} (he : dx e = se ∧ dy e = 0) (hn : dx n = 0 ∧ dy n = sn) (hs : dx s = 0 ∧ dy s = -sn) (hw : dx w = -se ∧ dy w = 0) {W H X Y A : Int} (hH : H ≠ 0)
    (hb : (if W - A.fdiv H < 1 then W - A.fdiv H else 1) * A.fmod H = A.fmod H) : posF ([(s, H - Y)] ++ (climbF W H A e n ++ [(w, W - X)])) = (se * X, sn * Y, se * sn * A) := by
  have hA : H * A.fdiv H + A.fmod H = A := Int.mul_fdiv_add_fmod A H
  unfold climbF
  rw [if_neg hH]
  generalize (if W - A.fdiv H < 1 then W - A.fdiv H else 1) = b at hb ⊢
  generalize A.fdiv H = f at hA ⊢
  generalize A.fmod H = x at hA hb ⊢
  subst hA
  simp only [posF, List.cons_append, List.nil_append, List.foldl_cons, List.foldl_nil, cStep, he.1, he.2, hn.1, hn.2, hs.1, hs.2, hw.1, hw.2, Int.zero_mul, Int.mul_zero, Int.add_zero, Int.zero_add, Prod.mk.injEq]
  refine ⟨?_, ?_, ?_⟩
  · simp only [Int.mul_sub, Int.neg_mul, Int.mul_add]; omega
  · simp only [Int.mul_sub, Int.neg_mul, Int.mul_add]; omega
  · have k1 : se * b * sn * x = se * sn * x := by rw [Int.mul_assoc se b sn, Int.mul_comm b sn, ← Int.mul_assoc, Int.mul_assoc, hb]
    have k2 : se * f * sn * H = se * sn * (H * f) := by
      rw [Int.mul_assoc se f sn, Int.mul_comm f sn, ← Int.mul_assoc, Int.mul_assoc, Int.mul_comm f H]
    simp only [Int.mul_sub, Int.mul_add, Int.add_mul]
    rw [k1, k2]
    omega
theorem frame_pos2 {e n s w : Str} {se sn : Int} (he : dx e = se ∧ dy e = 0) (hn : dx n = 0 ∧ dy n = sn) (hs : dx s = 0 ∧ dy s = -sn) (hw : dx w = -se ∧ dy w = 0) {W H X Y A : Int} (hW : W ≠ 0)
    (hb : (if H - A.fdiv W < 1 then H - A.fdiv W else 1) * A.fmod W = A.fmod W) : posF ([(w, W - X)] ++ (climbF H W A n e ++ [(s, H - Y)])) = (se * X, sn * Y, se * sn * (X * Y - A)) := by
  have hA : W * A.fdiv W + A.fmod W = A := Int.mul_fdiv_add_fmod A W
  unfold climbF
  rw [if_neg hW]
  generalize (if H - A.fdiv W < 1 then H - A.fdiv W else 1) = b at hb ⊢
  generalize A.fdiv W = f at hA ⊢
  generalize A.fmod W = x at hA hb ⊢
  subst hA
  simp only [posF, List.cons_append, List.nil_append, List.foldl_cons, List.foldl_nil, cStep, he.1, he.2, hn.1, hn.2, hs.1, hs.2, hw.1, hw.2, Int.zero_mul, Int.mul_zero, Int.add_zero, Int.zero_add, Prod.mk.injEq]
  refine ⟨?_, ?_, ?_⟩
  · simp only [Int.mul_sub, Int.neg_mul, Int.mul_add]; omega
  · simp only [Int.mul_sub, Int.neg_mul, Int.mul_add]; omega
  · have sw : ∀ a c : Int, se * a * sn * c = se * sn * (a * c) := fun a c => by
      rw [Int.mul_assoc se a sn, Int.mul_comm a sn, ← Int.mul_assoc, Int.mul_assoc]
    have xb : x * b = x := by rw [Int.mul_comm]; exact hb
    simp only [Int.mul_sub, Int.mul_add, Int.add_mul, Int.sub_mul, Int.neg_mul, Int.mul_neg, sw, xb]
    omega
/-- the steps of the climb: none below 0; the bend is 1 or nothing is left over -/
theorem climb_ok {W H A : Int} (e n : Str) (hH : 0 ≤ H) (hW : 0 ≤ W) (h0 : 0 ≤ A) (hA : A ≤ W * H) : (∀ p ∈ climbF W H A e n, (p.1 = e ∨ p.1 = n) ∧ 0 ≤ p.2) ∧ ((climbF W H A e n).map (·.2)).sum = W + H ∧
    (H ≠ 0 → (if W - A.fdiv H < 1 then W - A.fdiv H else 1) * A.fmod H = A.fmod H) := by
  by_cases z : H = 0
  · subst z
    have ec : climbF W 0 A e n = [(e, W)] := if_pos rfl
    rw [ec]
    refine ⟨fun p hp => ?_, by simp, fun h => absurd rfl h⟩
    rw [List.mem_singleton] at hp
    subst hp
    exact ⟨.inl rfl, hW⟩
  · have hp : 0 < H := by omega
    have m0 := Int.fmod_nonneg_of_pos A hp
    have m1 := Int.fmod_lt_of_pos A hp
    have f0 : 0 ≤ A.fdiv H := Int.fdiv_nonneg h0 hH
    have hq : H * A.fdiv H + A.fmod H = A := Int.mul_fdiv_add_fmod A H
    have f1 : A.fdiv H ≤ W := by
      by_cases c : A.fdiv H ≤ W
      · exact c
      · have : H * (W + 1) ≤ H * A.fdiv H := Int.mul_le_mul_of_nonneg_left (by omega) hH
        rw [Int.mul_add, Int.mul_one, Int.mul_comm H W] at this
        omega
    have hx : W - A.fdiv H < 1 → A.fmod H = 0 := fun c => by
      have : A.fdiv H = W := by omega
      rw [this, Int.mul_comm] at hq
      omega
    unfold climbF
    rw [if_neg z]
    generalize A.fdiv H = f at *
    generalize A.fmod H = x at *
    have hb : (if W - f < 1 then W - f else 1) * x = x := by
      split
      · rename_i c; rw [hx c]; omega
      · rw [Int.one_mul]
    have b0 : 0 ≤ (if W - f < 1 then W - f else 1) ∧ (if W - f < 1 then W - f else 1) ≤ W - f := by split <;> omega
    generalize (if W - f < 1 then W - f else 1) = b at *
    refine ⟨fun p hp => ?_, ?_, fun _ => hb⟩
    · simp only [List.mem_cons, List.not_mem_nil, or_false] at hp
      rcases hp with rfl | rfl | rfl | rfl | rfl
      · exact ⟨.inl rfl, f0⟩
      · exact ⟨.inr rfl, by show 0 ≤ H - x; omega⟩
      · exact ⟨.inl rfl, b0.1⟩
      · exact ⟨.inr rfl, m0⟩
      · exact ⟨.inl rfl, by show 0 ≤ W - f - b; omega⟩
    · simp only [List.map_cons, List.map_nil, List.sum_cons, List.sum_nil]
      omega
end AW

set_option linter.all false
set_option maxHeartbeats 2000000
namespace AW
open PySem PySem.Spec PyProof.Rows L2 Fewest
variable [Tbs]
abbrev mu (p q : T3) : T3 := (p.1 + q.1, p.2.1 + q.2.1, p.2.2 + q.2.2 + p.1 * q.2.1)
theorem mu_assoc (p q r : T3) : mu (mu p q) r = mu p (mu q r) := by
  obtain ⟨a, b, c⟩ := p; obtain ⟨d, e, f⟩ := q; obtain ⟨g, h, i⟩ := r
  simp only [mu, Prod.mk.injEq]
  refine ⟨by omega, by omega, ?_⟩
  rw [Int.add_mul, Int.mul_add]; omega
theorem mu_home (p : T3) : mu p (0, 0, 0) = p ∧ mu (0, 0, 0) p = p := by
  obtain ⟨a, b, c⟩ := p
  simp [mu]
theorem apF_mu (p q : T3) : mu p (apF p q) = q := by
  obtain ⟨a, b, c⟩ := p; obtain ⟨d, e, f⟩ := q
  simp only [mu, apF, Prod.mk.injEq]
  refine ⟨by omega, by omega, ?_⟩
  rw [Int.mul_add, Int.mul_neg, Int.neg_mul]; omega
theorem mu_cancel {p q r : T3} (h : mu p q = mu p r) : q = r := by
  obtain ⟨a, b, c⟩ := p; obtain ⟨d, e, f⟩ := q; obtain ⟨g, h', i⟩ := r
  simp only [mu, Prod.mk.injEq] at h ⊢
  obtain ⟨h1, h2, h3⟩ := h
  have : e = h' := by omega
  subst this
  exact ⟨by omega, rfl, by omega⟩
theorem apF_of {p q r : T3} (h : mu p r = q) : apF p q = r := mu_cancel ((apF_mu p q).trans h.symm)
theorem apF_home (p : T3) : apF (0, 0, 0) p = p := apF_of (mu_home p).2
theorem apF_chain (p q r : T3) : mu (apF p q) (apF q r) = apF p r := (apF_of (by rw [← mu_assoc, apF_mu, apF_mu])).symm
theorem st_mu (p q : T3) : stF (mu p q) ≤ stF p + stF q := (stF_st p).triangle (stF_st q) (stF_st (mu p q))
theorem st_nn (p : T3) : 0 ≤ stF p := (stF_st p).pos
theorem st_home (p : T3) : stF p = 0 ↔ p = (0, 0, 0) := by
  obtain ⟨a, b, c⟩ := p
  rw [Prod.mk.injEq, Prod.mk.injEq]
  exact (stF_st (a, b, c)).home
theorem st_home0 : stF (0, 0, 0) = 0 := (st_home _).mpr rfl
theorem st_back (p : T3) : stF (-p.1, -p.2.1, p.1 * p.2.1 - p.2.2) = stF p := stF_eq (ways5 (stF_st p)).2.2.2.2
theorem st_sym (p q : T3) : stF (apF p q) = stF (apF q p) := by
  rw [← st_back (apF p q)]
  congr 1
  refine (apF_of ?_).symm
  obtain ⟨a, b, c⟩ := p; obtain ⟨d, e, f⟩ := q
  simp only [mu, apF, Prod.mk.injEq]
  refine ⟨by omega, by omega, ?_⟩
  grind
def GoodR (ps : List Rn) : Prop := ∀ p ∈ ps, p.1 ∈ chS "enws" ∧ 0 ≤ p.2
abbrev sumR (ps : List Rn) : Int := (ps.map (·.2)).sum
theorem GoodR.tail {p : Rn} {ps : List Rn} (h : GoodR (p :: ps)) : GoodR ps := fun q hq => h q (List.mem_cons_of_mem _ hq)
theorem GoodR.head {p : Rn} {ps : List Rn} (h : GoodR (p :: ps)) : p.1 ∈ chS "enws" ∧ 0 ≤ p.2 := h p (List.mem_cons_self ..)
theorem GoodR.nn {ps : List Rn} (h : GoodR ps) : ∀ p ∈ ps, 0 ≤ p.2 := fun p hp => (h p hp).2
theorem GoodR.append {ps qs : List Rn} (h : GoodR ps) (g : GoodR qs) : GoodR (ps ++ qs) := fun p hp => (List.mem_append.mp hp).elim (h p) (g p)
theorem GoodR.of_append {ps qs : List Rn} (h : GoodR (ps ++ qs)) : GoodR ps ∧ GoodR qs := ⟨fun p hp => h p (List.mem_append.mpr (.inl hp)), fun p hp => h p (List.mem_append.mpr (.inr hp))⟩
theorem GoodR.take {ps : List Rn} (h : GoodR ps) (i : Nat) : GoodR (ps.take i) := fun p hp => h p (List.mem_of_mem_take hp)
theorem sumR_nn : ∀ {ps : List Rn}, GoodR ps → 0 ≤ sumR ps
  | [], _ => Int.le_refl _
  | p :: ps, h => by
    have h1 := sumR_nn h.tail
    have h2 := h.head.2
    show 0 ≤ (List.sum (p.2 :: ps.map (·.2)))
    rw [List.sum_cons]
    exact Int.add_nonneg h2 h1
theorem sumR_cons (p : Rn) (ps : List Rn) : sumR (p :: ps) = p.2 + sumR ps := List.sum_cons
theorem sumR_append (ps qs : List Rn) : sumR (ps ++ qs) = sumR ps + sumR qs := by
  show ((ps ++ qs).map (·.2)).sum = _
  rw [List.map_append, List.sum_append]
theorem sumR_take {ps : List Rn} (h : GoodR ps) (i : Nat) : sumR (ps.take i) ≤ sumR ps := by
  have h1 := List.take_append_drop i ps
  have h2 : sumR ps = sumR (ps.take i) + sumR (ps.drop i) := by rw [← sumR_append, h1]
  have h3 := sumR_nn (ps := ps.drop i) (fun p hp => h p (List.mem_of_mem_drop hp))
  omega
theorem cStep_mu (s : T3) (p : Rn) : cStep s p = mu s (posF [p]) := by
  obtain ⟨x, y, z⟩ := s
  simp only [cStep, posF, mu, List.foldl_cons, List.foldl_nil, Int.zero_mul, Int.zero_add, Int.add_zero, Prod.mk.injEq, true_and]
  rw [Int.mul_assoc]
theorem fold_mu : ∀ (ps : List Rn) (s : T3), ps.foldl cStep s = mu s (posF ps)
  | [], s => (mu_home s).1.symm
  | p :: ps, s => by
    have e1 : posF (p :: ps) = mu (posF [p]) (posF ps) := by
      show ps.foldl cStep (cStep (0, 0, 0) p) = _
      rw [fold_mu ps]
      rfl
    rw [List.foldl_cons, fold_mu ps, e1, cStep_mu, mu_assoc]
theorem posF_append (ps qs : List Rn) : posF (ps ++ qs) = mu (posF ps) (posF qs) := by
  unfold posF
  rw [List.foldl_append]
  exact fold_mu qs _
theorem posF_cons (p : Rn) (qs : List Rn) : posF (p :: qs) = mu (posF [p]) (posF qs) := posF_append [p] qs
theorem posF_run (c : Str) (t : Int) : posF [(c, t)] = (dx c * t, dy c * t, 0) := by simp [posF, cStep]
theorem dir_one {c : Str} (h : c ∈ chS "enws") : (dx c = 1 ∧ dy c = 0) ∨ (dx c = -1 ∧ dy c = 0) ∨ (dx c = 0 ∧ dy c = 1) ∨ (dx c = 0 ∧ dy c = -1) := by
  rcases mem_enws h with rfl | rfl | rfl | rfl
  · exact .inl (by decide +kernel)
  · exact .inr (.inr (.inl (by decide +kernel)))
  · exact .inr (.inl (by decide +kernel))
  · exact .inr (.inr (.inr (by decide +kernel)))
theorem st_line (a b : Int) (h : a = 0 ∨ b = 0) : stF (a, b, 0) = ab a + ab b := by
  have e : a * b = 0 := by rcases h with rfl | rfl <;> simp
  have e2 : ab a * ab b = 0 := by rcases h with rfl | rfl <;> simp [ab]
  refine stF_eq ⟨⟨ab a, ab b, ⟨Int.le_refl _, Int.le_refl _, ?_⟩, by show _ = _ - ab a - ab b; omega⟩, fun p q bx => ?_⟩
  · rw [e2]
    show ab (2 * 0 - a * b) + 0 ≤ _
    rw [e]
    decide
  · have h1 : ab a ≤ p := bx.1
    have h2 : ab b ≤ q := bx.2.1
    show ab a + ab b ≤ _ - ab a - ab b
    omega
theorem st_run {c : Str} {t : Int} (h : c ∈ chS "enws") (t0 : 0 ≤ t) : stF (posF [(c, t)]) = t := by
  rw [posF_run]
  rcases dir_one h with ⟨h1, h2⟩ | ⟨h1, h2⟩ | ⟨h1, h2⟩ | ⟨h1, h2⟩
  all_goals
    rw [h1, h2, st_line _ _ (by omega)]
    unfold ab
    omega
/-- no walk is shorter than the steps of its place -/
theorem st_walk : ∀ {ps : List Rn}, GoodR ps → stF (posF ps) ≤ sumR ps
  | [], _ => by rw [show posF [] = (0, 0, 0) from rfl, st_home0]; exact Int.le_refl _
  | p :: ps, h => by
    have h1 := st_walk h.tail
    have h2 := st_mu (posF [p]) (posF ps)
    have h3 : stF (posF [p]) = p.2 := st_run h.head.1 h.head.2
    rw [posF_cons, sumR_cons]
    omega
theorem st_abs (p : T3) : ab p.1 + ab p.2.1 ≤ stF p := Least.ge (stF_st p)
theorem posF_abs {ps : List Rn} (h : GoodR ps) : ab (posF ps).1 ≤ sumR ps ∧ ab (posF ps).2.1 ≤ sumR ps := by
  have h1 := st_walk h
  have h2 := st_abs (posF ps)
  unfold ab at *
  omega
theorem good_le : ∀ {ps : List Rn}, GoodR ps → ∀ p ∈ ps, p.2 ≤ sumR ps
  | [], _, _, hp => by cases hp
  | q :: ps, h, p, hp => by
    have h1 := sumR_nn h.tail
    have h2 := h.head.2
    rw [sumR_cons]
    rcases List.mem_cons.mp hp with rfl | hp
    · omega
    · have := good_le h.tail p hp
      omega
/-- good runs whose number of steps is not too great are those of corners -/
theorem RnOk.of {ps : List Rn} (h : GoodR ps) (hl : ps.length ≤ 1000000) (hs : Bd 3000 (sumR ps)) : RnOk ps := by
  have s0 := sumR_nn h
  refine ⟨hl, fun p hp => ⟨(h p hp).1, ?_⟩, fun i => ?_⟩
  · have h1 := good_le h p hp
    have h2 := (h p hp).2
    unfold Bd at *
    omega
  · have h1 := (posF_abs (h.take i)).1
    have h2 := sumR_take h i
    unfold ab at h1
    unfold Bd at *
    omega
theorem jStep_good {s : List Rn × Str × Int} {p : Rn} (hs : GoodR s.1) (h0 : 0 ≤ s.2.2) (hl : s.2.2 > 0 → s.2.1 ∈ chS "enws") (hp : p.1 ∈ chS "enws" ∧ 0 ≤ p.2) : GoodR (jStep s p).1 ∧ 0 ≤ (jStep s p).2.2 ∧ ((jStep s p).2.2 > 0 → (jStep s p).2.1 ∈ chS "enws") := by
  obtain ⟨rs, l, c⟩ := s
  obtain ⟨q, t⟩ := p
  have h0 : 0 ≤ c := h0
  have hp2 : 0 ≤ t := hp.2
  unfold jStep
  by_cases h1 : t = 0
  · subst h1
    rw [if_pos rfl]
    exact ⟨hs, h0, hl⟩
  · rw [if_neg h1]
    by_cases h2 : q = l
    · subst h2
      rw [if_pos rfl]
      exact ⟨hs, by show 0 ≤ c + t; omega, fun _ => hp.1⟩
    · rw [if_neg h2]
      refine ⟨?_, hp2, fun _ => hp.1⟩
      show GoodR (if c > 0 then rs ++ [(l, c)] else rs)
      split
      · rename_i h3
        exact hs.append fun x hx => by
          rw [List.mem_singleton] at hx
          subst hx
          exact ⟨hl h3, h0⟩
      · exact hs
theorem jFold_good : ∀ (ps : List Rn) (s : List Rn × Str × Int), GoodR s.1 → 0 ≤ s.2.2 → (s.2.2 > 0 → s.2.1 ∈ chS "enws") → GoodR ps → GoodR (ps.foldl jStep s).1 ∧ 0 ≤ (ps.foldl jStep s).2.2 ∧ ((ps.foldl jStep s).2.2 > 0 → (ps.foldl jStep s).2.1 ∈ chS "enws")
  | [], s, a, b, c, _ => ⟨a, b, c⟩
  | p :: ps, s, a, b, c, h => by
    obtain ⟨a1, b1, c1⟩ := jStep_good a b c h.head
    exact jFold_good ps _ a1 b1 c1 h.tail
theorem joinF_good {ps : List Rn} (h : GoodR ps) : GoodR (joinF ps) := by
  obtain ⟨a, b, c⟩ := jFold_good ps ([], "", 0) (fun _ hp => by cases hp) (Int.le_refl _) (fun h => absurd h (by decide)) h
  unfold joinF
  generalize ps.foldl jStep ([], "", 0) = s at a b c ⊢
  unfold jEnd
  split
  · rename_i h3
    exact a.append fun x hx => by
      rw [List.mem_singleton] at hx
      subst hx
      exact ⟨c h3, b⟩
  · exact a
theorem joinF_pos {ps : List Rn} (h : GoodR ps) : posF (joinF ps) = posF ps := (joinF_val h.nn).1
theorem joinF_sum {ps : List Rn} (h : GoodR ps) : sumR (joinF ps) = sumR ps := (joinF_val h.nn).2
def mn (a b : Int) : Int := if b < a then b else a
def hL : List Rn → Int → List Rn
  | [], _ => []
  | p :: ps, n => (p.1, mn p.2 n) :: hL ps (n - mn p.2 n)
def tL : List Rn → Int → List Rn
  | [], _ => []
  | p :: ps, n => (p.1, p.2 - mn p.2 n) :: tL ps (n - mn p.2 n)
theorem hFold : ∀ (ps : List Rn) (s : List Rn × Int), (ps.foldl hStep s).1 = s.1 ++ hL ps s.2
  | [], s => (List.append_nil _).symm
  | p :: ps, s => by
    rw [List.foldl_cons, hFold ps]
    show (s.1 ++ [(p.1, mn p.2 s.2)]) ++ hL ps (s.2 - mn p.2 s.2) = s.1 ++ ((p.1, mn p.2 s.2) :: hL ps (s.2 - mn p.2 s.2))
    rw [List.append_assoc]
    rfl
theorem hF_eq (ps : List Rn) (n : Int) : hF ps n = hL ps n := by
  unfold hF
  rw [hFold]
  rfl
theorem mn_in {a b : Int} (ha : 0 ≤ a) (hb : 0 ≤ b) : 0 ≤ mn a b ∧ mn a b ≤ a ∧ mn a b ≤ b := by
  unfold mn
  split <;> omega
theorem hL_good : ∀ {ps : List Rn} {n : Int}, GoodR ps → 0 ≤ n → GoodR (hL ps n)
  | [], _, _, _ => fun _ hp => by cases hp
  | p :: ps, n, h, h0 => by
    have m := mn_in h.head.2 h0
    intro q hq
    rcases List.mem_cons.mp hq with rfl | hq
    · exact ⟨h.head.1, m.1⟩
    · exact hL_good h.tail (by omega) q hq
theorem tL_good : ∀ {ps : List Rn} {n : Int}, GoodR ps → 0 ≤ n → GoodR (tL ps n)
  | [], _, _, _ => fun _ hp => by cases hp
  | p :: ps, n, h, h0 => by
    have m := mn_in h.head.2 h0
    intro q hq
    rcases List.mem_cons.mp hq with rfl | hq
    · exact ⟨h.head.1, by show 0 ≤ p.2 - mn p.2 n; omega⟩
    · exact tL_good h.tail (by omega) q hq
theorem hL_len : ∀ (ps : List Rn) (n : Int), (hL ps n).length = ps.length
  | [], _ => rfl
  | p :: ps, n => by rw [hL, List.length_cons, List.length_cons, hL_len ps]
theorem hL_sum : ∀ {ps : List Rn} {n : Int}, GoodR ps → 0 ≤ n → n ≤ sumR ps → sumR (hL ps n) = n
  | [], n, _, h0, h1 => by
    have h1 : n ≤ 0 := h1
    show (0 : Int) = n
    omega
  | p :: ps, n, h, h0, h1 => by
    have m := mn_in h.head.2 h0
    rw [sumR_cons] at h1
    have s0 := sumR_nn h.tail
    rw [hL, sumR_cons, hL_sum h.tail (by omega) (by unfold mn; split <;> omega)]
    show mn p.2 n + (n - mn p.2 n) = n
    omega
theorem ht_sum : ∀ (ps : List Rn) (n : Int), sumR (hL ps n) + sumR (tL ps n) = sumR ps
  | [], _ => rfl
  | p :: ps, n => by
    have := ht_sum ps (n - mn p.2 n)
    rw [hL, tL, sumR_cons, sumR_cons, sumR_cons]
    show mn p.2 n + _ + (p.2 - mn p.2 n + _) = _
    omega
theorem hL_zero : ∀ {ps : List Rn}, GoodR ps → posF (hL ps 0) = (0, 0, 0) ∧ tL ps 0 = ps
  | [], _ => ⟨rfl, rfl⟩
  | p :: ps, h => by
    have m := mn_in h.head.2 (Int.le_refl 0)
    have e : mn p.2 0 = 0 := by omega
    obtain ⟨i1, i2⟩ := hL_zero h.tail
    rw [hL, tL, e, posF_cons]
    refine ⟨?_, ?_⟩
    · rw [show (0 : Int) - 0 = 0 from rfl, i1, posF_run]; simp
    · rw [show (0 : Int) - 0 = 0 from rfl, i2, Int.sub_zero]
theorem run_add (c : Str) (a b : Int) : mu (posF [(c, a)]) (posF [(c, b)]) = posF [(c, a + b)] := by
  rw [posF_run, posF_run, posF_run]
  have h := dxdy c
  simp only [mu, Prod.mk.injEq]
  refine ⟨by rw [Int.mul_add], by rw [Int.mul_add], ?_⟩
  rw [show dx c * a * (dy c * b) = dx c * dy c * (a * b) by grind, h]
  omega
/-- the first steps and the others make the walk -/
theorem ht_pos : ∀ {ps : List Rn} {n : Int}, GoodR ps → 0 ≤ n → mu (posF (hL ps n)) (posF (tL ps n)) = posF ps
  | [], _, _, _ => (mu_home _).1
  | p :: ps, n, h, h0 => by
    obtain ⟨c, t⟩ := p
    have ht : 0 ≤ t := h.head.2
    by_cases g : n < t
    · have e : mn t n = n := if_pos g
      rw [hL, tL]
      show mu (posF ((c, mn t n) :: hL ps (n - mn t n))) (posF ((c, t - mn t n) :: tL ps (n - mn t n))) = _
      rw [e, Int.sub_self, posF_cons, posF_cons (c, t - n), (hL_zero h.tail).1, (hL_zero h.tail).2, (mu_home _).1, ← mu_assoc, run_add, posF_cons (c, t)]
      rw [show n + (t - n) = t by omega]
    · have e : mn t n = t := if_neg g
      rw [hL, tL]
      show mu (posF ((c, mn t n) :: hL ps (n - mn t n))) (posF ((c, t - mn t n) :: tL ps (n - mn t n))) = _
      have ez : posF [(c, 0)] = (0, 0, 0) := by rw [posF_run]; simp
      rw [e, Int.sub_self, posF_cons, posF_cons (c, 0) (tL _ _), ez, (mu_home _).2, mu_assoc, ht_pos h.tail (by omega), ← posF_cons]
/-- on a least walk: the first m steps are least, and so are the others -/
theorem part_least {ps : List Rn} (h : GoodR ps) (hl : stF (posF ps) = sumR ps) {m : Int} (h0 : 0 ≤ m) (h1 : m ≤ sumR ps) :
    stF (posF (hL ps m)) = m ∧ stF (posF (tL ps m)) = sumR ps - m := by
  have a1 := st_walk (hL_good h h0)
  have a2 := st_walk (tL_good h h0)
  have a3 := hL_sum h h0 h1
  have a4 := ht_sum ps m
  have a5 := st_mu (posF (hL ps m)) (posF (tL ps m))
  rw [ht_pos h h0] at a5
  omega
end AW

set_option linter.all false
set_option maxHeartbeats 2000000
namespace AW
open PySem PySem.Spec PyProof.Rows L2 Fewest
variable [Tbs]
theorem eL_cases (b : Bool) (x y : Str) : eL b x y = x ∨ eL b x y = y := by
  unfold eL; split
  · exact .inl rfl
  · exact .inr rfl
theorem dirE (b : Bool) : (dx (eL b "w" "e") = (if b = true then -1 else 1) ∧ dy (eL b "w" "e") = 0) ∧ (dx (eL b "e" "w") = -(if b = true then -1 else 1) ∧ dy (eL b "e" "w") = 0) ∧ (dx (eL b "s" "n") = 0 ∧ dy (eL b "s" "n") = (if b = true then -1 else 1)) ∧ (dx (eL b "n" "s") = 0 ∧ dy (eL b "n" "s") = -(if b = true then -1 else 1)) := by
  cases b <;> decide +kernel
theorem mem_eL {b : Bool} {x y : Str} (hx : x ∈ chS "enws") (hy : y ∈ chS "enws") : eL b x y ∈ chS "enws" := by
  rcases eL_cases b x y with h | h
  · rw [h]; exact hx
  · rw [h]; exact hy
theorem in_e : ("e" : Str) ∈ chS "enws" := by rw [chS_enws]; simp
theorem in_n : ("n" : Str) ∈ chS "enws" := by rw [chS_enws]; simp
theorem in_w : ("w" : Str) ∈ chS "enws" := by rw [chS_enws]; simp
theorem in_s : ("s" : Str) ∈ chS "enws" := by rw [chS_enws]; simp
theorem sgn_ab (x : Int) : (if decide (x < 0) = true then -1 else 1) * ab x = x := by
  unfold ab
  by_cases h : x < 0
  · rw [if_pos (decide_eq_true h)]; omega
  · rw [if_neg (by simp only [decide_eq_true_eq]; exact h)]; omega
theorem up_ok {x y a g : Int} (hb : ab (2 * a - x * y) + ab x * ab y ≤ 2 * g) : (if decide (x < 0) = true then -1 else 1) * (if decide (y < 0) = true then -1 else 1) * upA (x, y, a) = a ∧ 2 * upA (x, y, a) ≤ 2 * g ∧ 2 * (ab x * ab y - upA (x, y, a)) ≤ 2 * g := by
  have e1 : ab x * ab y = ab (x * y) := by unfold ab; rw [Int.natAbs_mul, Int.natCast_mul]
  have hu : upA (x, y, a) = (if decide (x < 0) = decide (y < 0) then a else -a) := rfl
  rw [e1] at hb ⊢
  rw [hu]
  by_cases cx : x < 0
  · by_cases cy : y < 0
    · have h : 0 ≤ x * y := by
        have := Int.mul_nonneg (show 0 ≤ -x by omega) (show 0 ≤ -y by omega)
        rwa [Int.neg_mul_neg] at this
      rw [decide_eq_true cx, decide_eq_true cy]
      simp only [reduceCtorEq, ↓reduceIte]
      clear hu e1
      generalize x * y = z at *
      unfold ab at *
      exact ⟨by omega, by omega, by omega⟩
    · have h : x * y ≤ 0 := Int.mul_nonpos_of_nonpos_of_nonneg (by omega) (by omega)
      rw [decide_eq_true cx, decide_eq_false cy]
      simp only [reduceCtorEq, ↓reduceIte]
      clear hu e1
      generalize x * y = z at *
      unfold ab at *
      exact ⟨by omega, by omega, by omega⟩
  · by_cases cy : y < 0
    · have h : x * y ≤ 0 := Int.mul_nonpos_of_nonneg_of_nonpos (by omega) (by omega)
      rw [decide_eq_false cx, decide_eq_true cy]
      simp only [reduceCtorEq, ↓reduceIte]
      clear hu e1
      generalize x * y = z at *
      unfold ab at *
      exact ⟨by omega, by omega, by omega⟩
    · have h : 0 ≤ x * y := Int.mul_nonneg (by omega) (by omega)
      rw [decide_eq_false cx, decide_eq_false cy]
      simp only [reduceCtorEq, ↓reduceIte]
      clear hu e1
      generalize x * y = z at *
      unfold ab at *
      exact ⟨by omega, by omega, by omega⟩
/-- the walk around a box that holds the place -/
theorem frame_ok' {x y a W H : Int} (hW : ab x ≤ W) (hH : ab y ≤ H) (hb : ab (2 * a - x * y) + ab x * ab y ≤ 2 * (W * H)) :
    GoodR (frameF (x, y, a) W H) ∧ sumR (frameF (x, y, a) W H) = 2 * (W + H) - ab x - ab y ∧ posF (frameF (x, y, a) W H) = (x, y, a) ∧ (frameF (x, y, a) W H).length ≤ 7 := by
  have x0 : 0 ≤ ab x := by unfold ab; omega
  have y0 : 0 ≤ ab y := by unfold ab; omega
  have hx := sgn_ab x
  have hy := sgn_ab y
  have xy := up_ok hb
  obtain ⟨xy, k1, k2⟩ := xy
  have p0 : 0 ≤ ab x * ab y := Int.mul_nonneg x0 y0
  have hxn : (if decide (x < 0) = true then -1 else 1 : Int) = 1 ∨ (if decide (x < 0) = true then -1 else 1 : Int) = -1 := by split <;> simp
  have hyn : (if decide (y < 0) = true then -1 else 1 : Int) = 1 ∨ (if decide (y < 0) = true then -1 else 1 : Int) = -1 := by split <;> simp
  obtain ⟨dE, dW, _, _⟩ := dirE (decide (x < 0))
  obtain ⟨_, _, dN, dS⟩ := dirE (decide (y < 0))
  have iE : eL (decide (x < 0)) "w" "e" ∈ chS "enws" := mem_eL in_w in_e
  have iW : eL (decide (x < 0)) "e" "w" ∈ chS "enws" := mem_eL in_e in_w
  have iN : eL (decide (y < 0)) "s" "n" ∈ chS "enws" := mem_eL in_s in_n
  have iS : eL (decide (y < 0)) "n" "s" ∈ chS "enws" := mem_eL in_n in_s
  have efr : frameF (x, y, a) W H = (if 2 * upA (x, y, a) < ab x * ab y then
    [(eL (decide (x < 0)) "e" "w", W - ab x)] ++ (climbF H W (ab x * ab y - upA (x, y, a)) (eL (decide (y < 0)) "s" "n") (eL (decide (x < 0)) "w" "e") ++ [(eL (decide (y < 0)) "n" "s", H - ab y)])
  else [(eL (decide (y < 0)) "n" "s", H - ab y)] ++ (climbF W H (upA (x, y, a)) (eL (decide (x < 0)) "w" "e") (eL (decide (y < 0)) "s" "n") ++ [(eL (decide (x < 0)) "e" "w", W - ab x)])) := rfl
  rw [efr]
  show _ ∧ _ = 2 * (W + H) - ab x - ab y ∧ _ = (x, y, a) ∧ _
  clear efr
  generalize eL (decide (x < 0)) "w" "e" = e at *
  generalize eL (decide (x < 0)) "e" "w" = w at *
  generalize eL (decide (y < 0)) "s" "n" = n at *
  generalize eL (decide (y < 0)) "n" "s" = s at *
  generalize (if decide (x < 0) = true then -1 else 1 : Int) = sx at *
  generalize (if decide (y < 0) = true then -1 else 1 : Int) = sy at *
  generalize upA (x, y, a) = u at *
  have W0 : 0 ≤ W := by omega
  have H0 : 0 ≤ H := by omega
  by_cases c : 2 * u < ab x * ab y
  · rw [if_pos c]
    have hA : ab x * ab y - u ≤ H * W := by rw [Int.mul_comm H W]; omega
    obtain ⟨g1, g2, g3⟩ := climb_ok (W := H) (H := W) (A := ab x * ab y - u) n e W0 H0 (by omega) hA
    have Wz : W ≠ 0 := fun z => by
      subst z
      have : ab x = 0 := by omega
      rw [this, Int.zero_mul] at *
      rw [Int.mul_zero] at hA
      omega
    refine ⟨?_, ?_, ?_, ?_⟩
    · intro q hq
      rcases List.mem_append.mp hq with hq | hq
      · rw [List.mem_singleton] at hq; subst hq
        exact ⟨iW, by show 0 ≤ W - ab x; omega⟩
      rcases List.mem_append.mp hq with hq | hq
      · obtain ⟨h1, h2⟩ := g1 q hq
        exact ⟨h1.elim (fun h => h ▸ iN) (fun h => h ▸ iE), h2⟩
      · rw [List.mem_singleton] at hq; subst hq
        exact ⟨iS, by show 0 ≤ H - ab y; omega⟩
    · rw [sumR_append, sumR_append]
      show (W - ab x + 0) + (_ + (H - ab y + 0)) = _
      have g2 : sumR (climbF H W (ab x * ab y - u) n e) = H + W := g2
      rw [g2]; omega
    · rw [frame_pos2 dE dN dS dW Wz (g3 Wz), hx, hy, show ab x * ab y - (ab x * ab y - u) = u by omega, xy]
    · rw [List.length_append, List.length_append]
      have := climb_len H W (ab x * ab y - u) n e
      show 1 + (_ + 1) ≤ 7
      omega
  · rw [if_neg c]
    have hA : u ≤ W * H := by omega
    obtain ⟨g1, g2, g3⟩ := climb_ok (W := W) (H := H) (A := u) e n H0 W0 (by omega) hA
    refine ⟨?_, ?_, ?_, ?_⟩
    · intro q hq
      rcases List.mem_append.mp hq with hq | hq
      · rw [List.mem_singleton] at hq; subst hq
        exact ⟨iS, by show 0 ≤ H - ab y; omega⟩
      rcases List.mem_append.mp hq with hq | hq
      · obtain ⟨h1, h2⟩ := g1 q hq
        exact ⟨h1.elim (fun h => h ▸ iE) (fun h => h ▸ iN), h2⟩
      · rw [List.mem_singleton] at hq; subst hq
        exact ⟨iW, by show 0 ≤ W - ab x; omega⟩
    · rw [sumR_append, sumR_append]
      show (H - ab y + 0) + (_ + (W - ab x + 0)) = _
      have g2 : sumR (climbF W H u e n) = W + H := g2
      rw [g2]; omega
    · by_cases Hz : H = 0
      · subst Hz
        have y0' : ab y = 0 := by omega
        have yz : y = 0 := by unfold ab at y0'; omega
        have uz : u = 0 := by
          rw [y0', Int.mul_zero] at c
          rw [Int.mul_zero] at hA
          omega
        have az : a = 0 := by rw [uz, Int.mul_zero] at xy; exact xy.symm
        have ec : climbF W 0 u e n = [(e, W)] := if_pos rfl
        rw [ec, y0', show (0 : Int) - 0 = 0 from rfl, posF_append, posF_append, posF_run, posF_run, posF_run, dE.1, dE.2, dW.1, dW.2]
        simp only [mu, Int.mul_zero, Int.zero_mul, Int.add_zero, Int.zero_add, Prod.mk.injEq]
        refine ⟨?_, yz.symm, az.symm⟩
        rw [Int.mul_sub, Int.neg_mul, Int.neg_mul, hx]; omega
      · rw [frame_pos1 dE dN dS dW Hz (g3 Hz), hx, hy, xy]
    · rw [List.length_append, List.length_append]
      have := climb_len W H u e n
      show 1 + (_ + 1) ≤ 7
      omega
theorem frame_ok {p : T3} {W H : Int} (hW : ab p.1 ≤ W) (hH : ab p.2.1 ≤ H) (hb : ab (2 * p.2.2 - p.1 * p.2.1) + ab p.1 * ab p.2.1 ≤ 2 * (W * H)) :
    GoodR (frameF p W H) ∧ sumR (frameF p W H) = 2 * (W + H) - ab p.1 - ab p.2.1 ∧ posF (frameF p W H) = p ∧ (frameF p W H).length ≤ 7 := frame_ok' hW hH hb
/-- the built walk of n steps, where there is one -/
theorem built_ok {p : T3} {n : Int} (hn : stF p ≤ n) (hp : (n - stF p) % 2 = 0) :
    ab p.1 + ab p.2.1 ≤ n ∧ (n - ab p.1 - ab p.2.1) % 2 = 0 ∧ 0 ≤ bxW p n ∧ bxW p n ≤ n ∧ 0 ≤ bxH p n ∧ bxH p n ≤ n ∧ GoodR (frameF p (bxW p n) (bxH p n)) ∧ sumR (frameF p (bxW p n) (bxH p n)) = n ∧ posF (frameF p (bxW p n) (bxH p n)) = p ∧ (frameF p (bxW p n) (bxH p n)).length ≤ 7 := by
  have g := st_abs p
  have q := Least.par (stF_st p)
  have x0 : 0 ≤ ab p.1 := by unfold ab; omega
  have y0 : 0 ≤ ab p.2.1 := by unfold ab; omega
  have hm : (n - ab p.1 - ab p.2.1) % 2 = 0 := by unfold ab; omega
  have hs : n - ab p.1 - ab p.2.1 = 2 * ((n - ab p.1 - ab p.2.1) / 2) := by omega
  have s0 : 0 ≤ (n - ab p.1 - ab p.2.1) / 2 := by omega
  have bi := bestW_in x0 y0 s0
  have r := (reach (stF_st p) hs s0).mp ⟨hn, hp⟩
  have f := frame_ok (p := p) (W := bxW p n) (H := bxH p n) bi.1 bi.2.2 r
  have eW : bxW p n = bestW (ab p.1) (ab p.2.1) ((n - ab p.1 - ab p.2.1) / 2) := rfl
  have eH : bxH p n = ab p.1 + ab p.2.1 + (n - ab p.1 - ab p.2.1) / 2 - bxW p n := rfl
  refine ⟨by omega, hm, by omega, by omega, by omega, by omega, f.1, ?_, f.2.2.1, f.2.2.2⟩
  rw [f.2.1]
  omega
theorem least_ok (p : T3) : ab p.1 + ab p.2.1 ≤ stF p ∧ (stF p - ab p.1 - ab p.2.1) % 2 = 0 ∧ 0 ≤ bxW p (stF p) ∧ bxW p (stF p) ≤ stF p ∧ 0 ≤ bxH p (stF p) ∧ bxH p (stF p) ≤ stF p ∧ GoodR (frameF p (bxW p (stF p)) (bxH p (stF p))) ∧ sumR (frameF p (bxW p (stF p)) (bxH p (stF p))) = stF p ∧ posF (frameF p (bxW p (stF p)) (bxH p (stF p))) = p ∧ (frameF p (bxW p (stF p)) (bxH p (stF p))).length ≤ 7 :=
  built_ok (Int.le_refl _) (by rw [Int.sub_self]; rfl)
/-- the number of steps is not much greater than the numbers of the place -/
theorem st_le (p : T3) : stF p ≤ 4 * (ab p.1 + ab p.2.1 + ab p.2.2) + 4 := by
  obtain ⟨x, y, a⟩ := p
  show stF (x, y, a) ≤ 4 * (ab x + ab y + ab a) + 4
  have l := (stF_st (x, y, a)).low
  have x0 : 0 ≤ ab x := by unfold ab; omega
  have y0 : 0 ≤ ab y := by unfold ab; omega
  have a0 : 0 ≤ ab a := by unfold ab; omega
  have e1 : ab x * ab y = ab (x * y) := by unfold ab; rw [Int.natAbs_mul, Int.natCast_mul]
  have := l (ab x + ab a) (ab y + 1) ⟨by show ab x ≤ _; omega, by show ab y ≤ _; omega, by
    show ab (2 * a - x * y) + ab x * ab y ≤ 2 * ((ab x + ab a) * (ab y + 1))
    have m1 : 0 ≤ ab a * ab y := Int.mul_nonneg a0 y0
    rw [show (ab x + ab a) * (ab y + 1) = ab x * ab y + ab a * ab y + ab x + ab a by grind, e1]
    generalize x * y = z at *
    unfold ab at *
    omega⟩
  have this : stF (x, y, a) ≤ 2 * (ab x + ab a + (ab y + 1)) - ab x - ab y := this
  omega
noncomputable def lwF (p : T3) : List Rn := joinF (frameF p (bxW p (stF p)) (bxH p (stF p)))
theorem lwF_ok (p : T3) : GoodR (lwF p) ∧ sumR (lwF p) = stF p ∧ posF (lwF p) = p ∧ (lwF p).length ≤ 8 := by
  obtain ⟨_, _, _, _, _, _, h1, h2, h3, h4⟩ := least_ok p
  refine ⟨joinF_good h1, (joinF_sum h1).trans h2, (joinF_pos h1).trans h3, ?_⟩
  have := joinF_len (frameF p (bxW p (stF p)) (bxH p (stF p)))
  unfold lwF
  omega
noncomputable def midF (p q : T3) (m : Int) : T3 := mu p (posF (joinF (hF (lwF (apF p q)) m)))
theorem mid_ok (p q : T3) {m : Int} (h0 : 0 ≤ m) (h1 : m ≤ stF (apF p q)) : stF (apF p (midF p q m)) = m ∧ stF (apF (midF p q m) q) = stF (apF p q) - m := by
  obtain ⟨g1, g2, g3, g4⟩ := lwF_ok (apF p q)
  have hh := hL_good g1 h0
  have pl := part_least g1 (by rw [g3, g2]) h0 (by rw [g2]; exact h1)
  unfold midF
  rw [hF_eq, joinF_pos hh]
  refine ⟨by rw [apF_of rfl]; exact pl.1, ?_⟩
  rw [apF_of (r := posF (tL (lwF (apF p q)) m)) (by rw [mu_assoc, ht_pos g1 h0, g3, apF_mu]), pl.2, g2]
theorem lw_rn (p : T3) (hb : Bd 3000 (stF p)) : RnOk (lwF p) := by
  obtain ⟨g1, g2, g3, g4⟩ := lwF_ok p
  exact RnOk.of g1 (by omega) (by rw [g2]; exact hb)
theorem st_bd {p : T3} {k : Nat} (h1 : Bd k p.1) (h2 : Bd k p.2.1) (h3 : Bd k p.2.2) : Bd (k + 5) (stF p) := by
  have := st_le p
  have := st_nn p
  unfold Bd ab at *
  rw [Nat.pow_add]
  have : 0 < 2 ^ k := Nat.two_pow_pos k
  omega
end AW

set_option linter.all false
set_option maxRecDepth 100000
set_option maxHeartbeats 8000000
namespace AW
open PySem PySem.Spec PyProof.Rows L2
section
variable {P : Program} {w : World} {K : PySem.W.Frag} {mg : Str → Option Value} {base : Heap}
/-- the least and the greatest area of walks of n steps to (x, y), or None -/
def sp_areas_of_walks (T : Tx K mg) : Sp := fun vs H Q E => ∃ x y n : Int, vs = [.int x, .int y, .int n] ∧ Bd 3000 x ∧ Bd 3000 y ∧ Bd 3000 n ∧
  ((n < Fewest.ab x + Fewest.ab y ∨ (n - Fewest.ab x - Fewest.ab y) % 2 = 1) → ∀ H', Same H H' → Q .non H') ∧
  (∀ s W : Int, 0 ≤ s → n - Fewest.ab x - Fewest.ab y = 2 * s → Fewest.bestW (Fewest.ab x) (Fewest.ab y) s = W → ∀ t H', Same H H' →
    H' t = some (.tup [.int (max 0 (x * y) - W * (Fewest.ab x + Fewest.ab y + s - W)), .int (W * (Fewest.ab x + Fewest.ab y + s - W) + min 0 (x * y))]) → Q (.ref t) H')
theorem ok_areas_of_walks (T : Tx K mg) : FnOk P w K mg base (L2.CX P w) 2 T.a_areas_of_walks T.d_areas_of_walks P_areas_of_walks (sp_areas_of_walks T) := by
  have G_spare_steps : FnOk P w K mg base (L2.CX P w) 1 _ _ _ _ := ok_spare_steps T
  have G_best_sides : FnOk P w K mg base (L2.CX P w) 1 _ _ _ _ := ok_best_sides T
  refine T.F_areas_of_walks.okX sc_areas_of_walks (fun vs H Q E h => ?_) (fun cdv A outer s H vs Q E hr h => ?_)
  · obtain ⟨x, y, n, rfl, _⟩ := h
    rfl
  · obtain ⟨x, y, n, rfl, bx, by', bn, k1, k2⟩ := h
    refine ⟨_, (pss_cons (ps_set (i := 3) sc_areas_of_walks.nd rfl (.inl rfl) (pe_call G_spare_steps (hr.mono (by decide)) (by rfl) T.g_spare_steps T.F_spare_steps.kp T.b_spare_steps .nil passL (pa_cons (pv 0) (pa_cons (pv 1) (pa_cons (pv 2) pa_nil)))))
 (pss_cons (ps_if (pt_cmp (pc_isN (pv 3)))
 (pss_one (ps_ret pe_non))
 pss_nil)
 (pss_cons (ps_asg (pe_call G_best_sides (hr.mono (by decide)) (by rfl) T.g_best_sides T.F_best_sides.kp T.b_best_sides .nil passL (pa_cons (pe_callB call_abs (by rfl) T.n_abs (by decide +kernel) (pa_cons (pv 0) pa_nil)) (pa_cons (pe_callB call_abs (by rfl) T.n_abs (by decide +kernel) (pa_cons (pv 1) pa_nil)) (pa_cons (pv 3) pa_nil)))) (pg_tup rfl (pgs_cons (pg_name (i := 4) sc_areas_of_walks.nd rfl (.inl rfl)) (pgs_cons (pg_name (i := 5) sc_areas_of_walks.nd rfl (.inl rfl)) pgs_nil))))
 (pss_one (ps_ret (pe_tup (pa_cons (pe_op op_sub (pe_callB (call_max2 rfl) (by rfl) T.n_max (by decide +kernel) (pa_cons pe_int (pa_cons (pe_op op_mulW (pv 0) (pv 1)) pa_nil))) (pe_op op_mulW (pv 4) (pv 5))) (pa_cons (pe_op op_add (pe_op op_mulW (pv 4) (pv 5)) (pe_callB (call_min2 rfl) (by rfl) T.n_min (by decide +kernel) (pa_cons pe_int (pa_cons (pe_op op_mulW (pv 0) (pv 1)) pa_nil)))) pa_nil)))))))), ?_⟩
    refine ⟨_, rfl, _, rfl, _, rfl, x, y, n, rfl, fun c => ?_, fun sp s0 hs => ?_⟩
    · exact ⟨_, rfl, _, rfl, iteT (k1 c H (Same.refl _))⟩
    · refine ⟨_, rfl, _, rfl, iteF ?_⟩
      refine ⟨_, rfl, _, rfl, _, rfl, _, rfl, _, rfl, _, _, _, rfl, ?_⟩
      rw [ab_if, ab_if]
      refine fun t H1 s1 e1 => ?_
      obtain ⟨W, hW⟩ : ∃ W, Fewest.bestW (Fewest.ab x) (Fewest.ab y) sp = W := ⟨_, rfl⟩
      rw [hW] at e1
      have X0 : 0 ≤ Fewest.ab x := by unfold Fewest.ab; omega
      have Y0 : 0 ≤ Fewest.ab y := by unfold Fewest.ab; omega
      have wi := Fewest.bestW_in X0 Y0 s0
      rw [hW] at wi
      have bX := bx.ab
      have bY := by'.ab
      have bs : Bd 3000 sp := by unfold Bd at *; omega
      have bW : Bd 3001 W := by
        have h := bX.add bs
        unfold Bd at *
        omega
      have bH : Bd 3001 (Fewest.ab x + Fewest.ab y + sp - W) := by
        have h := bY.add bs
        unfold Bd at *
        omega
      have mw := cmw (bW.mono (show 3001 ≤ 8000 by decide)) (bH.mono (show 3001 ≤ 8000 by decide))
      have mx := cmw (bx.mono (show 3000 ≤ 8000 by decide)) (by'.mono (show 3000 ≤ 8000 by decide))
      have em : (if x * y > 0 then x * y else 0) = max 0 (x * y) := by split <;> omega
      have en : (if x * y < 0 then x * y else 0) = min 0 (x * y) := by split <;> omega
      refine ⟨t, _, rfl, SqT.of e1, rfl, _, _, rfl, _, _, rfl, rfl, ?_⟩
      refine ⟨_, rfl, _, rfl, _, _, rfl, rfl, mx, _, _, rfl, _, rfl, _, rfl, _, _, rfl, rfl, mw, _, _, rfl, rfl, _, rfl, _, rfl, _, _, rfl, rfl, mw, _, rfl, _, rfl, _, _, rfl, rfl, mx, _, _, rfl, _, _, rfl, rfl, (by show 2 ≤ sizeLine; decide), fun t2 nt2 => ?_⟩
      rw [em, en]
      exact k2 sp W s0 hs hW t2 _ (Same.after s1 nt2) upd_same
end
end AW

set_option linter.all false
set_option maxRecDepth 100000
set_option maxHeartbeats 8000000
namespace AW
open PySem PySem.Spec PyProof.Rows L2 LamX Fewest
variable [Tbs]
section
variable {P : Program} {w : World} {K : PySem.W.Frag} {mg : Str → Option Value} {base : Heap}
def badF (m : Int) (d : D) : Prop := intD d = false ∨ ∃ i : Int, d = .int i ∧ i < m
abbrev badW (d : D) : Prop := badF 0 d
def pr_check_from (T : Tx K mg) : Pr := fun ds B k e => ∃ d m, ds = [d, .int m] ∧ ((∃ i : Int, d = .int i ∧ m ≤ i ∧ k .non B) ∨ (plainD d = true ∧ badF m d ∧ e T.C_BadNumber (some ((["value"] : List Str), [d])) B))
theorem okD_check_from (T : Tx K mg) : FnOk P w K mg base (L2.CX P w) 3 T.a_check_from T.d_check_from P_check_from (spD K (pr_check_from T)) := by
  refine T.F_check_from.okX sc_check_from (spD_len fun ds B k e h => by obtain ⟨d, m, rfl, hk⟩ := h; rfl) (fun cdv A outer s H vs Q E hr h => ?_)
  have G_BadNumber_init : FnOk P w K mg base (L2.CX P w) 1 _ _ _ _ := ok_BadNumber_init T
  have G_is_integer : FnOk P w K mg base (L2.CX P w) _ _ _ _ _ := okD_is_integer T
  obtain ⟨G, ds, B, k, e, hs, hR, ⟨d, m, rfl, hk⟩, hK, hX⟩ := h
  refine ⟨_, (pss_one (ps_if (PW.pt (pw_or (pt_not (pt_val (pe_call G_is_integer (hr.mono (by decide)) (by rfl) T.g_is_integer T.F_is_integer.kp T.b_is_integer .nil (passE (E := E)) (pa_cons (pv 0) pa_nil)))) (pw_or1 (pt_cmpR op_lt (pv 0) (pv 1) (nomark _)))))
 (pss_one (ps_raise rfl (takes_of rfl rfl rfl rfl) (pmk_oex T.X_BadNumber T.ei_BadNumber T.et_BadNumber G_BadNumber_init (hr.mono (by decide)) T.b_BadNumber_init .nil passL rfl T.g_C_BadNumber (by exact (pa_cons (pv 0) pa_nil)))))
 pss_nil)), run_body (ρ := [some d, some (.int m)]) hs hR hK hX rfl ?_⟩
  rcases hk with ⟨i, rfl, h0, hk⟩ | ⟨hp, hb, he⟩
  · refine ws_if <| wt_or <| wt_not <| wt_val <| we_call <| wa_cons <| we_var rfl <| wa_nil ⟨_, rfl, .inl rfl, _, rfl, fun h => (nomatch h), fun _ => wt_test <| we_op <| we_var rfl <| we_var rfl <| ro_b0 ⟨_, rfl, fun h => ?_, fun h => ws_next hk⟩⟩
    exact absurd (of_decide_eq_true h) (by omega)
  · rcases hb with hb | ⟨i, rfl, h0⟩
    · refine ws_if <| wt_or <| wt_not <| wt_val <| we_call <| wa_cons <| we_var rfl <| wa_nil ⟨_, rfl, .inl hp, _, rfl, fun _ => ⟨fun _ => ws_raise1 (wa_cons (we_var rfl (wa_nil ⟨_, rfl, he⟩))), fun h => (nomatch h)⟩, fun h => ?_⟩
      rw [hb] at h
      cases h
    · refine ws_if <| wt_or <| wt_not <| wt_val <| we_call <| wa_cons <| we_var rfl <| wa_nil ⟨_, rfl, .inl rfl, _, rfl, fun h => (nomatch h), fun _ => wt_test <| we_op <| we_var rfl <| we_var rfl <| ro_b0 ⟨_, rfl, fun _ => ws_raise1 (wa_cons (we_var rfl (wa_nil ⟨_, rfl, he⟩))), fun h => ?_⟩⟩
      exact absurd h0 (of_decide_eq_false h)
def pr_check_whole (T : Tx K mg) : Pr := fun ds B k e => ∃ d, ds = [d] ∧ ((∃ i : Int, d = .int i ∧ 0 ≤ i ∧ k .non B) ∨ (plainD d = true ∧ badW d ∧ e T.C_BadNumber (some ((["value"] : List Str), [d])) B))
theorem okD_check_whole (T : Tx K mg) : FnOk P w K mg base (L2.CX P w) 4 T.a_check_whole T.d_check_whole P_check_whole (spD K (pr_check_whole T)) := by
  refine T.F_check_whole.okX sc_check_whole (spD_len fun ds B k e h => by obtain ⟨d, rfl, hk⟩ := h; rfl) (fun cdv A outer s H vs Q E hr h => ?_)
  have G_check_from : FnOk P w K mg base (L2.CX P w) 3 _ _ _ _ := okD_check_from T
  obtain ⟨G, ds, B, k, e, hs, hR, ⟨d, rfl, hk⟩, hK, hX⟩ := h
  refine ⟨_, (pss_one (ps_expr (pe_call G_check_from (hr.mono (by decide)) (by rfl) T.g_check_from T.F_check_from.kp T.b_check_from .nil (passE (E := E)) (pa_cons (pv 0) (pa_cons pe_int pa_nil))))), run_body (ρ := [some d]) hs hR hK hX rfl ?_⟩
  exact ws_drop <| we_callE <| wa_cons <| we_var rfl <| wa_cons <| we_int <| wa_nil ⟨d, 0, rfl, hk⟩
/-- the least and the greatest area of walks of n steps to (x, y) -/
def areaF (x y n : Int) : Option (Int × Int) :=
  if n < ab x + ab y ∨ (n - ab x - ab y) % 2 = 1 then none else
    some (max 0 (x * y) - bestW (ab x) (ab y) ((n - ab x - ab y) / 2) * (ab x + ab y + (n - ab x - ab y) / 2 - bestW (ab x) (ab y) ((n - ab x - ab y) / 2)), bestW (ab x) (ab y) ((n - ab x - ab y) / 2) * (ab x + ab y + (n - ab x - ab y) / 2 - bestW (ab x) (ab y) ((n - ab x - ab y) / 2)) + min 0 (x * y))
def areaD : Option (Int × Int) → D
  | none => .non
  | some (lo, hi) => .tup [.int lo, .int hi]
def pr_areas_of_walks (T : Tx K mg) : Pr := fun ds B k e => ∃ x y n : Int, ds = [.int x, .int y, .int n] ∧ Bd 3000 x ∧ Bd 3000 y ∧ Bd 3000 n ∧ k (areaD (areaF x y n)) B
theorem okD_areas_of_walks (T : Tx K mg) : FnOk P w K mg base (L2.CX P w) 2 T.a_areas_of_walks T.d_areas_of_walks P_areas_of_walks (spD K (pr_areas_of_walks T)) :=
  (ok_areas_of_walks T).imp fun vs H Q E ⟨G, ds, B, k, e, hs, hr, ⟨x, y, n, ed, bx, by', bn, h⟩, hk, hx⟩ => by
    subst ed
    obtain ⟨_, _, rfl, r1, _, _, rfl, r2, _, _, rfl, r3, rfl⟩ := hr
    rw [show _ = V.int x from r1, show _ = V.int y from r2, show _ = V.int n from r3]
    have hex : ∀ H', Same H H' → Ext G H B G H' B := fun H' s => ⟨Le.refl _ _, fun a o z => s _ _ (hs _ _ z), fun a o z m _ => ⟨s _ _ z, m⟩⟩
    refine ⟨x, y, n, rfl, bx, by', bn, fun c H' s => ?_, fun s W s0 es eW t H' sm ht => ?_⟩
    · unfold areaF at h
      rw [if_pos c] at h
      exact hk _ _ _ _ _ h (hex H' s) rfl
    · have nc : ¬ (n < ab x + ab y ∨ (n - ab x - ab y) % 2 = 1) := fun c => by
        have x0 : 0 ≤ ab x := by unfold ab; omega
        omega
      have e2 : (n - ab x - ab y) / 2 = s := by omega
      unfold areaF at h
      rw [if_neg nc, e2, eW] at h
      have eL := Ext.learn (B := B) (hex H' sm).sub ht
      exact hk _ _ _ _ _ h ((hex H' sm).trans eL) ⟨t, _, rfl, SqT.of upd_same, _, _, rfl, rfl, _, _, rfl, rfl, rfl⟩
theorem areaF_none {x y n : Int} (h : areaF x y n = none) (a : Int) : ¬ (stF (x, y, a) ≤ n ∧ (n - stF (x, y, a)) % 2 = 0) := by
  unfold areaF at h
  split at h
  · rename_i c; exact none_of (stF_st (x, y, a)) c
  · cases h
theorem areaF_some {x y n lo hi : Int} (h : areaF x y n = some (lo, hi)) : (∀ a, (lo ≤ a ∧ a ≤ hi) ↔ (stF (x, y, a) ≤ n ∧ (n - stF (x, y, a)) % 2 = 0)) ∧ lo + hi = x * y ∧ lo ≤ hi := by
  unfold areaF at h
  split at h
  · cases h
  · rename_i c
    obtain ⟨s, es⟩ : ∃ s, (n - ab x - ab y) / 2 = s := ⟨_, rfl⟩
    rw [es] at h
    obtain ⟨W, eW⟩ : ∃ W, bestW (ab x) (ab y) s = W := ⟨_, rfl⟩
    rw [eW] at h
    simp only [Option.some.injEq, Prod.mk.injEq] at h
    obtain ⟨e1, e2⟩ := h
    have hs : n - ab x - ab y = 2 * s := by omega
    have s0 : 0 ≤ s := by omega
    have X0 : 0 ≤ ab x := by unfold ab; omega
    have Y0 : 0 ≤ ab y := by unfold ab; omega
    have wi := bestW_in X0 Y0 s0
    rw [eW] at wi
    refine ⟨fun a => ?_, by rw [← e1, ← e2]; omega, ?_⟩
    · rw [← e1, ← e2]
      exact (areas_of (stF_st (x, y, a)) hs s0 eW).symm
    · have h1 : ab x * ab y ≤ W * (ab x + ab y + s - W) := Int.mul_le_mul wi.1 wi.2.2 Y0 (by omega)
      have h2 : ab x * ab y = ab (x * y) := by unfold ab; rw [Int.natAbs_mul]; push_cast; rfl
      rw [h2] at h1
      rw [← e1, ← e2]
      unfold ab at h1
      generalize W * (ab x + ab y + s - W) = V0 at h1 ⊢
      generalize x * y = v at h1 ⊢
      omega
def pr_areas (T : Tx K mg) : Pr := fun ds B k e => ∃ d1 d2 d3 : D, ds = [d1, d2, d3] ∧
  ((∃ x y n : Int, d1 = .int x ∧ d2 = .int y ∧ d3 = .int n ∧ 0 ≤ n ∧ Bd 3000 x ∧ Bd 3000 y ∧ Bd 3000 n ∧ k (areaD (areaF x y n)) B) ∨
   (plainD d1 = true ∧ intD d1 = false ∧ e T.C_BadNumber (some ((["value"] : List Str), [d1])) B) ∨
   (∃ x : Int, d1 = .int x ∧ plainD d2 = true ∧ intD d2 = false ∧ e T.C_BadNumber (some ((["value"] : List Str), [d2])) B) ∨
   (∃ x y : Int, d1 = .int x ∧ d2 = .int y ∧ plainD d3 = true ∧ badW d3 ∧ e T.C_BadNumber (some ((["value"] : List Str), [d3])) B))
theorem okD_areas (T : Tx K mg) : FnOk P w K mg base (L2.CX P w) 5 T.a_areas T.d_areas P_areas (spD K (pr_areas T)) := by
  refine T.F_areas.okX sc_areas (spD_len fun ds B k e h => by obtain ⟨d1, d2, d3, rfl, hk⟩ := h; rfl) (fun cdv A outer s H vs Q E hr h => ?_)
  have G_areas_of_walks : FnOk P w K mg base (L2.CX P w) 2 _ _ _ _ := okD_areas_of_walks T
  have G_check_integer : FnOk P w K mg base (L2.CX P w) _ _ _ _ _ := okD_check_integer T
  have G_check_whole : FnOk P w K mg base (L2.CX P w) 4 _ _ _ _ := okD_check_whole T
  obtain ⟨G, ds, B, k, e, hs, hR, ⟨d1, d2, d3, rfl, hk⟩, hK, hX⟩ := h
  refine ⟨_, (pss_cons (ps_expr (pe_call G_check_integer (hr.mono (by decide)) (by rfl) T.g_check_integer T.F_check_integer.kp T.b_check_integer .nil (passE (E := E)) (pa_cons (pv 0) pa_nil)))
 (pss_cons (ps_expr (pe_call G_check_integer (hr.mono (by decide)) (by rfl) T.g_check_integer T.F_check_integer.kp T.b_check_integer .nil (passE (E := E)) (pa_cons (pv 1) pa_nil)))
 (pss_cons (ps_expr (pe_call G_check_whole (hr.mono (by decide)) (by rfl) T.g_check_whole T.F_check_whole.kp T.b_check_whole .nil (passE (E := E)) (pa_cons (pv 2) pa_nil)))
 (pss_one (ps_ret (pe_call G_areas_of_walks (hr.mono (by decide)) (by rfl) T.g_areas_of_walks T.F_areas_of_walks.kp T.b_areas_of_walks .nil (passE (E := E)) (pa_cons (pv 0) (pa_cons (pv 1) (pa_cons (pv 2) pa_nil))))))))), run_body (ρ := [some d1, some d2, some d3]) hs hR hK hX rfl ?_⟩
  rcases hk with ⟨x, y, n, rfl, rfl, rfl, n0, bx, by', bn, hk⟩ | ⟨p1, i1, he⟩ | ⟨x, rfl, p2, i2, he⟩ | ⟨x, y, rfl, rfl, p3, b3, he⟩
  · refine ws_seq <| ws_drop <| we_callE <| wa_cons <| we_var rfl <| wa_nil ⟨_, rfl, .inl rfl, fun _ => ?_, fun h => nomatch h⟩
    refine ws_seq <| ws_drop <| we_callE <| wa_cons <| we_var rfl <| wa_nil ⟨_, rfl, .inl rfl, fun _ => ?_, fun h => nomatch h⟩
    refine ws_seq <| ws_drop <| we_callE <| wa_cons <| we_var rfl <| wa_nil ⟨_, rfl, .inl ⟨n, rfl, n0, ?_⟩⟩
    exact ws_ret <| we_call <| wa_cons <| we_var rfl <| wa_cons <| we_var rfl <| wa_cons <| we_var rfl <| wa_nil ⟨x, y, n, rfl, bx, by', bn, hk⟩
  · exact ws_seq <| ws_drop <| we_callE <| wa_cons <| we_var rfl <| wa_nil ⟨_, rfl, .inl p1, (fun h => by rw [i1] at h; cases h), fun _ => he⟩
  · refine ws_seq <| ws_drop <| we_callE <| wa_cons <| we_var rfl <| wa_nil ⟨_, rfl, .inl rfl, fun _ => ?_, fun h => nomatch h⟩
    exact ws_seq <| ws_drop <| we_callE <| wa_cons <| we_var rfl <| wa_nil ⟨_, rfl, .inl p2, (fun h => by rw [i2] at h; cases h), fun _ => he⟩
  · refine ws_seq <| ws_drop <| we_callE <| wa_cons <| we_var rfl <| wa_nil ⟨_, rfl, .inl rfl, fun _ => ?_, fun h => nomatch h⟩
    refine ws_seq <| ws_drop <| we_callE <| wa_cons <| we_var rfl <| wa_nil ⟨_, rfl, .inl rfl, fun _ => ?_, fun h => nomatch h⟩
    exact ws_seq <| ws_drop <| we_callE <| wa_cons <| we_var rfl <| wa_nil ⟨_, rfl, .inr ⟨p3, b3, he⟩⟩
end
end AW

set_option linter.all false
set_option maxHeartbeats 2000000
namespace AW
open PySem PySem.Spec PyProof.Rows L2 Fewest
variable [Tbs]
def rStep (s : List Rn) (p : Rn) : List Rn :=
  match s.reverse with
  | [] => if p.2 > 0 then [p] else []
  | q :: r => if p.2 > 0 then (if q.1 = p.1 then r.reverse ++ [(p.1, q.2 + p.2)] else s ++ [p]) else s
def runsF (ps : List Rn) : List Rn := ps.foldl rStep []
theorem rStep_zero (s : List Rn) (p : Rn) (h : p.2 = 0) : rStep s p = s := by
  unfold rStep
  cases e : s.reverse with
  | nil => rw [if_neg (by omega)]; rw [List.reverse_eq_nil_iff] at e; exact e.symm
  | cons q r => exact if_neg (by omega)
theorem rStep_nil (p : Rn) (h : 0 < p.2) : rStep [] p = [p] := if_pos h
theorem rStep_same (r : List Rn) (q p : Rn) (h : 0 < p.2) (e : q.1 = p.1) : rStep (r ++ [q]) p = r ++ [(p.1, q.2 + p.2)] := by
  unfold rStep
  rw [List.reverse_append]
  show (if p.2 > 0 then (if q.1 = p.1 then r.reverse.reverse ++ [(p.1, q.2 + p.2)] else _) else _) = _
  rw [if_pos h, if_pos e, List.reverse_reverse]
theorem rStep_other (r : List Rn) (q p : Rn) (h : 0 < p.2) (e : q.1 ≠ p.1) : rStep (r ++ [q]) p = r ++ [q] ++ [p] := by
  unfold rStep
  rw [List.reverse_append]
  show (if p.2 > 0 then (if q.1 = p.1 then _ else _) else _) = _
  rw [if_pos h, if_neg e]
/-- what joined_runs holds, against the law's list -/
theorem jr_step {s : List Rn × Str × Int} {p : Rn} (h0 : 0 ≤ s.2.2) (hz : s.2.2 = 0 → s.1 = []) (hp : p.1 ∈ chS "enws" ∧ 0 ≤ p.2) :
    jEnd (jStep s p) = rStep (jEnd s) p ∧ 0 ≤ (jStep s p).2.2 ∧ ((jStep s p).2.2 = 0 → (jStep s p).1 = []) := by
  obtain ⟨rs, l, c⟩ := s
  obtain ⟨q, t⟩ := p
  have h0 : 0 ≤ c := h0
  have hz : c = 0 → rs = [] := hz
  have hp2 : 0 ≤ t := hp.2
  by_cases h1 : t = 0
  · have e : jStep (rs, l, c) (q, t) = (rs, l, c) := if_pos h1
    rw [e, rStep_zero _ (q, t) h1]
    exact ⟨rfl, h0, hz⟩
  have tp : 0 < t := by omega
  by_cases h2 : q = l
  · have e : jStep (rs, l, c) (q, t) = (rs, l, c + t) := by unfold jStep; rw [if_neg h1, if_pos h2]
    rw [e]
    refine ⟨?_, by show 0 ≤ c + t; omega, fun h => absurd h (by show ¬ c + t = 0; omega)⟩
    have e1 : jEnd (rs, l, c + t) = rs ++ [(l, c + t)] := if_pos (by show c + t > 0; omega)
    rw [e1]
    by_cases hc : c > 0
    · have e2 : jEnd (rs, l, c) = rs ++ [(l, c)] := if_pos hc
      rw [e2, rStep_same rs (l, c) (q, t) tp h2.symm, h2]
    · have hc0 : c = 0 := by omega
      have e2 : jEnd (rs, l, c) = rs := if_neg hc
      rw [e2, hz hc0, rStep_nil (q, t) tp, hc0, Int.zero_add, h2]
      rfl
  · have e : jStep (rs, l, c) (q, t) = (if c > 0 then rs ++ [(l, c)] else rs, q, t) := by unfold jStep; rw [if_neg h1, if_neg h2]
    rw [e]
    refine ⟨?_, hp2, fun h => absurd h h1⟩
    by_cases hc : c > 0
    · rw [if_pos hc]
      have e1 : jEnd (rs ++ [(l, c)], q, t) = rs ++ [(l, c)] ++ [(q, t)] := if_pos tp
      have e2 : jEnd (rs, l, c) = rs ++ [(l, c)] := if_pos hc
      rw [e1, e2, rStep_other rs (l, c) (q, t) tp (fun h => h2 h.symm)]
    · rw [if_neg hc]
      have hc0 : c = 0 := by omega
      have e1 : jEnd (rs, q, t) = rs ++ [(q, t)] := if_pos tp
      have e2 : jEnd (rs, l, c) = rs := if_neg hc
      rw [e1, e2, hz hc0, rStep_nil (q, t) tp]
      rfl
theorem jr_fold : ∀ (ps : List Rn) (s : List Rn × Str × Int), 0 ≤ s.2.2 → (s.2.2 = 0 → s.1 = []) → GoodR ps → jEnd (ps.foldl jStep s) = ps.foldl rStep (jEnd s)
  | [], _, _, _, _ => rfl
  | p :: ps, s, a, b, h => by
    obtain ⟨e, a1, b1⟩ := jr_step a b h.head
    rw [List.foldl_cons, List.foldl_cons, jr_fold ps _ a1 b1 h.tail, e]
theorem joinF_runs {ps : List Rn} (h : GoodR ps) : joinF ps = runsF ps := jr_fold ps ([], "", 0) (Int.le_refl _) (fun _ => rfl) h
theorem rStep_len (s : List Rn) (p : Rn) : (rStep s p).length ≤ s.length + (if p.2 = 0 then 0 else 1) := by
  by_cases z : p.2 = 0
  · rw [rStep_zero _ _ z, if_pos z]; omega
  rw [if_neg z]
  unfold rStep
  cases e : s.reverse with
  | nil =>
    show (if p.2 > 0 then [p] else []).length ≤ _
    split <;> simp
  | cons q r =>
    have hl : r.length + 1 = s.length := by rw [← List.length_reverse (as := s), e, List.length_cons]
    show (if p.2 > 0 then (if q.1 = p.1 then r.reverse ++ [(p.1, q.2 + p.2)] else s ++ [p]) else s).length ≤ _
    split
    · split
      · rw [List.length_append, List.length_reverse]; show r.length + 1 ≤ _; omega
      · rw [List.length_append]; exact Nat.le_refl _
    · omega
theorem rFold_len : ∀ (ps s : List Rn), (ps.foldl rStep s).length ≤ s.length + (ps.filter fun q => decide (q.2 ≠ 0)).length
  | [], s => Nat.le_refl _
  | p :: ps, s => by
    have h1 := rFold_len ps (rStep s p)
    have h2 := rStep_len s p
    rw [List.foldl_cons]
    by_cases z : p.2 = 0
    · rw [if_pos z] at h2
      rw [List.filter_cons_of_neg (by simp [z])]
      omega
    · rw [if_neg z] at h2
      rw [List.filter_cons_of_pos (by simp [z]), List.length_cons]
      omega
/-- at most as many runs as pairs with some times -/
theorem joinF_nz {ps : List Rn} (h : GoodR ps) : (joinF ps).length ≤ (ps.filter fun q => decide (q.2 ≠ 0)).length := by
  rw [joinF_runs h]
  have := rFold_len ps []
  simp only [List.length_nil, Nat.zero_add] at this
  exact this
theorem joinF_le {ps : List Rn} (h : GoodR ps) : (joinF ps).length ≤ ps.length := Nat.le_trans (joinF_nz h) (List.length_filter_le _ _)
/-- a walk whose last two runs go there and back is not least -/
theorem back_short {L : List Rn} {a b : Str} {t u : Int} (g : GoodR (L ++ [(a, t), (b, u)])) (ht : 0 < t) (hu : 0 < u) (ho : mu (posF [(a, 1)]) (posF [(b, 1)]) = (0, 0, 0)) : stF (posF (L ++ [(a, t), (b, u)])) ≤ sumR (L ++ [(a, t), (b, u)]) - 2 := by
  have ha : a ∈ chS "enws" := (g (a, t) (by simp)).1
  have hb : b ∈ chS "enws" := (g (b, u) (by simp)).1
  have g2 : GoodR (L ++ [(a, t - 1), (b, u - 1)]) := g.of_append.1.append fun q hq => by
    simp only [List.mem_cons, List.not_mem_nil, or_false] at hq
    rcases hq with rfl | rfl
    · exact ⟨ha, by show 0 ≤ t - 1; omega⟩
    · exact ⟨hb, by show 0 ≤ u - 1; omega⟩
  have e : posF (L ++ [(a, t), (b, u)]) = posF (L ++ [(a, t - 1), (b, u - 1)]) := by
    rw [posF_append, posF_append]
    congr 1
    rw [posF_cons, posF_cons (a, t - 1)]
    have e1 : posF [(a, t)] = mu (posF [(a, t - 1)]) (posF [(a, 1)]) := by rw [run_add, show t - 1 + 1 = t by omega]
    have e2 : posF [(b, u)] = mu (posF [(b, 1)]) (posF [(b, u - 1)]) := by rw [run_add, show 1 + (u - 1) = u by omega]
    rw [e1, e2, mu_assoc, ← mu_assoc (posF [(a, 1)]), ho, (mu_home _).2]
  have h1 := st_walk g2
  rw [e]
  rw [sumR_append] at h1 ⊢
  have s1 : sumR [(a, t - 1), (b, u - 1)] = t - 1 + (u - 1) := by show t - 1 + (u - 1 + 0) = _; omega
  have s2 : sumR [(a, t), (b, u)] = t + u := by show t + (u + 0) = _; omega
  rw [s1] at h1
  rw [s2]
  omega
theorem opp_eL (b : Bool) : mu (posF [(eL b "w" "e", 1)]) (posF [(eL b "e" "w", 1)]) = (0, 0, 0) ∧ mu (posF [(eL b "s" "n", 1)]) (posF [(eL b "n" "s", 1)]) = (0, 0, 0) := by
  rw [posF_run, posF_run, posF_run, posF_run]
  cases b <;> decide +kernel
theorem frame_form (p : T3) (W H : Int) : ∃ (L : List Rn) (a b : Str) (t u : Int), frameF p W H = L ++ [(a, t), (b, u)] ∧ L.length ≤ 5 ∧ mu (posF [(a, 1)]) (posF [(b, 1)]) = (0, 0, 0) := by
  have o1 := (opp_eL (decide (p.1 < 0))).1
  have o2 := (opp_eL (decide (p.2.1 < 0))).2
  unfold frameF climbF
  split
  · split
    · exact ⟨[_], _, _, _, _, rfl, (show 1 ≤ 5 by decide), o2⟩
    · exact ⟨[_, _, _, _, _], _, _, _, _, rfl, Nat.le_refl _, o2⟩
  · split
    · exact ⟨[_], _, _, _, _, rfl, (show 1 ≤ 5 by decide), o1⟩
    · exact ⟨[_, _, _, _, _], _, _, _, _, rfl, Nat.le_refl _, o1⟩
/-- a least walk has at most six runs -/
theorem lwF_six (p : T3) : (lwF p).length ≤ 6 := by
  obtain ⟨_, _, _, _, _, _, h1, h2, h3, h4⟩ := least_ok p
  obtain ⟨L, a, b, t, u, e, hL, ho⟩ := frame_form p (bxW p (stF p)) (bxH p (stF p))
  have hn := joinF_nz h1
  unfold lwF
  rw [e] at hn h1 h2 h3 ⊢
  rw [List.filter_append, List.length_append] at hn
  have hf := List.length_filter_le (fun q : Rn => decide (q.2 ≠ 0)) L
  by_cases ht : t = 0
  · rw [List.filter_cons_of_neg (by simp [ht])] at hn
    have := List.length_filter_le (fun q : Rn => decide (q.2 ≠ 0)) [(b, u)]
    have : ([(b, u)] : List Rn).length = 1 := rfl
    omega
  · by_cases hu : u = 0
    · have hz : ([(a, t), (b, u)] : List Rn).filter (fun q => decide (q.2 ≠ 0)) = [(a, t)] := by simp [hu, ht]
      rw [hz] at hn
      have : ([(a, t)] : List Rn).length = 1 := rfl
      omega
    · have t0 : 0 ≤ t := (h1 (a, t) (by simp)).2
      have u0 : 0 ≤ u := (h1 (b, u) (by simp)).2
      have := back_short h1 (by omega) (by omega) ho
      rw [h3] at this
      omega
end AW

set_option linter.all false
set_option maxHeartbeats 2000000
namespace AW
open PySem PySem.Spec PyProof.Rows L2 Fewest
variable [Tbs]
def expR (ps : List Rn) : List Str := (ps.map fun p => List.replicate p.2.toNat p.1).flatten
def runE (l : List Str) : List Rn := runsF (l.map fun c => (c, (1 : Int)))
theorem expR_nil : expR [] = [] := rfl
theorem expR_cons (p : Rn) (ps : List Rn) : expR (p :: ps) = List.replicate p.2.toNat p.1 ++ expR ps := rfl
theorem expR_append (ps qs : List Rn) : expR (ps ++ qs) = expR ps ++ expR qs := by simp [expR]
theorem expR_one (p : Rn) : expR [p] = List.replicate p.2.toNat p.1 := by simp [expR]
theorem rep_steps (c : Str) : ∀ (n : Nat) (s : List Rn), (List.replicate (n + 1) ((c, (1 : Int)) : Rn)).foldl rStep s = rStep s (c, (n : Int) + 1)
  | 0, s => by simp
  | n + 1, s => by
    rw [List.replicate_succ', List.foldl_append, rep_steps c n s]
    show rStep (rStep s (c, (n : Int) + 1)) (c, 1) = _
    have hp : 0 < (n : Int) + 1 := by omega
    rcases List.eq_nil_or_concat s with e0 | ⟨r, q, e0⟩
    · rw [e0, rStep_nil _ hp, rStep_nil _ (by show 0 < ((n + 1 : Nat) : Int) + 1; omega)]
      have := rStep_same [] (c, (n : Int) + 1) (c, 1) (show (0 : Int) < 1 by decide) rfl
      rw [List.nil_append, List.nil_append] at this
      rw [this]
      push_cast
      rfl
    · rw [List.concat_eq_append] at e0
      by_cases e : q.1 = c
      · rw [e0, rStep_same r q _ hp e, rStep_same r q _ (by show 0 < ((n + 1 : Nat) : Int) + 1; omega) e]
        have := rStep_same r (c, q.2 + ((n : Int) + 1)) (c, 1) (show (0 : Int) < 1 by decide) rfl
        rw [this]
        congr 3
        push_cast
        show q.2 + ((n : Int) + 1) + 1 = q.2 + ((n : Int) + 1 + 1)
        omega
      · rw [e0, rStep_other r q _ hp e, rStep_other r q _ (by show 0 < ((n + 1 : Nat) : Int) + 1; omega) e]
        have := rStep_same (r ++ [q]) (c, (n : Int) + 1) (c, 1) (show (0 : Int) < 1 by decide) rfl
        rw [this]
        push_cast
        rfl
theorem rep_fold {c : Str} {t : Int} (h : 0 ≤ t) (s : List Rn) : (List.replicate t.toNat ((c, (1 : Int)) : Rn)).foldl rStep s = rStep s (c, t) := by
  obtain ⟨n, rfl⟩ := Int.eq_ofNat_of_zero_le h
  cases n with
  | zero => rw [rStep_zero _ _ rfl]; rfl
  | succ n => rw [Int.toNat_natCast, rep_steps c n s]; push_cast; rfl
theorem exp_fold : ∀ {ps : List Rn} (s : List Rn), GoodR ps → ((expR ps).map fun c => ((c, (1 : Int)) : Rn)).foldl rStep s = ps.foldl rStep s
  | [], _, _ => rfl
  | p :: ps, s, h => by
    rw [expR_cons, List.map_append, List.foldl_append, List.map_replicate, rep_fold h.head.2, exp_fold _ h.tail]
    rfl
/-- runs are told by the steps alone -/
theorem joinF_exp {ps : List Rn} (h : GoodR ps) : joinF ps = runE (expR ps) := by
  rw [joinF_runs h]
  exact (exp_fold [] h).symm
theorem exp_rStep {s : List Rn} {p : Rn} (hs : ∀ q ∈ s, 0 ≤ q.2) (hp : 0 ≤ p.2) : expR (rStep s p) = expR s ++ expR [p] := by
  by_cases z : p.2 = 0
  · rw [rStep_zero _ _ z, expR_one, z]
    simp
  have hp : 0 < p.2 := by omega
  rcases List.eq_nil_or_concat s with e0 | ⟨r, q, e0⟩
  · rw [e0, rStep_nil _ hp]; rfl
  · rw [List.concat_eq_append] at e0
    by_cases e : q.1 = p.1
    · have hq : 0 ≤ q.2 := hs q (by rw [e0]; simp)
      rw [e0, rStep_same r q p hp e, expR_append, expR_append, expR_one, expR_one, expR_one, List.append_assoc]
      congr 1
      rw [e, List.replicate_append_replicate]
      congr 1
      show (q.2 + p.2).toNat = _
      omega
    · rw [e0, rStep_other r q p hp e, expR_append]
theorem exp_run : ∀ {ps s : List Rn}, (∀ q ∈ s, 0 ≤ q.2) → GoodR ps → expR (ps.foldl rStep s) = expR s ++ expR ps
  | [], s, _, _ => by simp [expR_nil]
  | p :: ps, s, hs, h => by
    have hs2 : ∀ q ∈ rStep s p, 0 ≤ q.2 := by
      intro q hq
      by_cases z : p.2 = 0
      · rw [rStep_zero _ _ z] at hq; exact hs q hq
      have hp : 0 < p.2 := by have := h.head.2; omega
      rcases List.eq_nil_or_concat s with e0 | ⟨r, q', e0⟩
      · rw [e0, rStep_nil _ hp] at hq
        rw [List.mem_singleton.mp hq]; omega
      · rw [List.concat_eq_append] at e0
        have hq' : 0 ≤ q'.2 := hs q' (by rw [e0]; simp)
        by_cases e : q'.1 = p.1
        · rw [e0, rStep_same r q' p hp e] at hq
          rcases List.mem_append.mp hq with hq | hq
          · exact hs q (by rw [e0]; simp [hq])
          · rw [List.mem_singleton.mp hq]; show 0 ≤ q'.2 + p.2; omega
        · rw [e0, rStep_other r q' p hp e] at hq
          rcases List.mem_append.mp hq with hq | hq
          · exact hs q (by rw [e0]; exact hq)
          · rw [List.mem_singleton.mp hq]; omega
    rw [List.foldl_cons, exp_run hs2 h.tail, exp_rStep hs h.head.2, List.append_assoc]
    congr 1
    rw [expR_one, expR_cons]
theorem exp_join {ps : List Rn} (h : GoodR ps) : expR (joinF ps) = expR ps := by
  rw [joinF_runs h]
  exact exp_run (fun q hq => by cases hq) h
theorem ht_exp : ∀ {ps : List Rn} {n : Int}, GoodR ps → 0 ≤ n → expR (hL ps n) ++ expR (tL ps n) = expR ps
  | [], _, _, _ => rfl
  | p :: ps, n, h, h0 => by
    have m := mn_in h.head.2 h0
    by_cases g : n < p.2
    · have e : mn p.2 n = n := if_pos g
      have z := hL_zero h.tail
      have hz : expR (hL ps 0) = [] := by
        have : ∀ qs : List Rn, GoodR qs → expR (hL qs 0) = [] := by
          intro qs
          induction qs with
          | nil => intro _; rfl
          | cons q r ih =>
            intro hq
            have m0 := mn_in hq.head.2 (Int.le_refl 0)
            have e0 : mn q.2 0 = 0 := by omega
            rw [hL, e0, expR_cons, show (0 : Int) - 0 = 0 from rfl, ih hq.tail]
            rfl
        exact this ps h.tail
      rw [hL, tL, e, Int.sub_self, expR_cons, expR_cons, z.2, hz, List.append_nil, ← List.append_assoc, expR_cons, List.replicate_append_replicate]
      congr 2
      show n.toNat + (p.2 - n).toNat = _
      omega
    · have e : mn p.2 n = p.2 := if_neg g
      rw [hL, tL, e, Int.sub_self, expR_cons, expR_cons, expR_cons, List.append_assoc]
      congr 1
      show _ ++ (List.replicate (0 : Int).toNat p.1 ++ _) = _
      rw [show List.replicate (0 : Int).toNat p.1 = [] from rfl, List.nil_append, ht_exp h.tail (by omega)]
end AW

set_option linter.all false
set_option maxRecDepth 100000
set_option maxHeartbeats 8000000
namespace AW
open PySem PySem.Spec PyProof.Rows L2 LamX Fewest
variable [Tbs]
section
variable {P : Program} {w : World} {K : PySem.W.Frag} {mg : Str → Option Value} {base : Heap} [CDict K w "DIRECTIONS" L_DIRECTIONS]
end
end AW

set_option linter.all false
set_option maxRecDepth 100000
set_option maxHeartbeats 8000000
namespace AW
open PySem PySem.Spec PyProof.Rows L2 LamX Fewest
variable [Tbs]
section
variable {P : Program} {w : World} {K : PySem.W.Frag} {mg : Str → Option Value} {base : Heap} [CDict K w "DIRECTIONS" L_DIRECTIONS]
theorem bdone {k : Nat} (h : k ≠ 0) : Bd k 1 := Nat.one_lt_two_pow h
theorem exp_mem {ps : List Rn} (hg : GoodR ps) {c : Str} (h : c ∈ expR ps) : c ∈ chS "enws" := by
  unfold expR at h
  obtain ⟨l, hl, hc⟩ := List.mem_flatten.mp h
  obtain ⟨p, hp, rfl⟩ := List.mem_map.mp hl
  rw [(List.mem_replicate.mp hc).2]
  exact (hg p hp).1
theorem exp_len {ps : List Rn} (hg : GoodR ps) : ((expR ps).length : Int) = sumR ps := by
  induction ps with
  | nil => rfl
  | cons p ps ih =>
    rw [expR_cons, List.length_append, sumR_cons, List.length_replicate]
    have := ih hg.tail
    have := hg.head.2
    push_cast
    omega
end
end AW

set_option linter.all false
set_option maxHeartbeats 2000000
namespace AW
open PySem PySem.Spec PyProof.Rows L2 Fewest
variable [Tbs]
theorem posF_area : ∀ {ps : List Rn}, GoodR ps → ab (posF ps).2.2 ≤ sumR ps * sumR ps
  | [], _ => by decide
  | p :: ps, h => by
    have h1 := posF_area h.tail
    have h2 := h.head.2
    have h3 := sumR_nn h.tail
    have h4 := (posF_abs h.tail).2
    rw [sumR_cons, posF_cons]
    obtain ⟨c, t⟩ := p
    rw [posF_run]
    show ab (0 + (posF ps).2.2 + dx c * t * (posF ps).2.1) ≤ (t + sumR ps) * (t + sumR ps)
    have h2 : 0 ≤ t := h2
    have e1 : ab (dx c * t * (posF ps).2.1) ≤ t * sumR ps := by
      have a1 : ab (dx c * t * (posF ps).2.1) = ab (dx c) * t * ab (posF ps).2.1 := by
        unfold ab
        rw [Int.natAbs_mul, Int.natAbs_mul, Int.natCast_mul, Int.natCast_mul, show ((t.natAbs : Nat) : Int) = t by omega]
      have a2 : ab (dx c) ≤ 1 := by
        have := dir_one h.head.1
        have this : (dx c = 1 ∧ dy c = 0) ∨ (dx c = -1 ∧ dy c = 0) ∨ (dx c = 0 ∧ dy c = 1) ∨ (dx c = 0 ∧ dy c = -1) := this
        unfold ab; omega
      have a3 : 0 ≤ ab (posF ps).2.1 := by unfold ab; omega
      rw [a1]
      calc ab (dx c) * t * ab (posF ps).2.1 ≤ 1 * t * ab (posF ps).2.1 := Int.mul_le_mul_of_nonneg_right (Int.mul_le_mul_of_nonneg_right a2 h2) a3
        _ = t * ab (posF ps).2.1 := by rw [Int.one_mul]
        _ ≤ t * sumR ps := Int.mul_le_mul_of_nonneg_left h4 h2
    have e2 : (t + sumR ps) * (t + sumR ps) = t * t + 2 * (t * sumR ps) + sumR ps * sumR ps := by grind
    have e3 : 0 ≤ t * t := Int.mul_nonneg h2 h2
    have e4 : 0 ≤ t * sumR ps := Int.mul_nonneg h2 h3
    generalize dx c * t * (posF ps).2.1 = z at *
    generalize (posF ps).2.2 = u at *
    unfold ab at *
    omega
abbrev LPs (ps : List Rn) (n : Int) : Prop := stF (posF (hL ps n)) = n
theorem hL_hL : ∀ (ps : List Rn) {m n : Int}, m ≤ n → hL (hL ps n) m = hL ps m
  | [], m, n, h => rfl
  | p :: ps, m, n, h => by
    have e1 : mn (mn p.2 n) m = mn p.2 m := by unfold mn; repeat' split
                                               all_goals omega
    show (p.1, mn (mn p.2 n) m) :: hL (hL ps (n - mn p.2 n)) (m - mn (mn p.2 n) m) = (p.1, mn p.2 m) :: hL ps (m - mn p.2 m)
    rw [e1, hL_hL ps (by unfold mn; repeat' split
                         all_goals omega)]
theorem LPs.mono {ps : List Rn} (h : GoodR ps) {m n : Int} (h0 : 0 ≤ m) (h1 : m ≤ n) (h2 : n ≤ sumR ps) (l : LPs ps n) : LPs ps m := by
  have g := hL_good h (show 0 ≤ n by omega)
  have s := hL_sum h (show 0 ≤ n by omega) h2
  have := (part_least g (by rw [s]; exact l) h0 (by omega)).1
  rw [hL_hL ps h1] at this
  exact this
theorem hL_at : ∀ {ps : List Rn} {i : Nat} {c : Str} {t m : Int}, GoodR ps → ps[i]? = some (c, t) → 0 ≤ m → m ≤ t → posF (hL ps (sumR (ps.take i) + m)) = mu (posF (ps.take i)) (posF [(c, m)])
  | [], i, c, t, m, _, h, _, _ => by simp at h
  | p :: ps, 0, c, t, m, g, h, h0, h1 => by
    obtain rfl : p = (c, t) := by simpa using h
    show posF ((c, mn t (0 + m)) :: hL ps (0 + m - mn t (0 + m))) = mu (0, 0, 0) (posF [(c, m)])
    have e : mn t (0 + m) = m := by unfold mn; split <;> omega
    rw [e, show 0 + m - m = 0 by omega, posF_cons, (hL_zero g.tail).1, (mu_home _).1, (mu_home _).2]
  | p :: ps, i + 1, c, t, m, g, h, h0, h1 => by
    have h : ps[i]? = some (c, t) := by simpa using h
    have ih := hL_at g.tail h h0 h1
    have s0 := sumR_nn (g.tail.take i)
    have hp := g.head.2
    rw [List.take_succ_cons, sumR_cons]
    generalize hS : sumR (ps.take i) = S at *
    have e : mn p.2 (p.2 + S + m) = p.2 := by unfold mn; split <;> omega
    show posF ((p.1, mn p.2 (p.2 + S + m)) :: hL ps (p.2 + S + m - mn p.2 (p.2 + S + m))) = _
    rw [e, show p.2 + S + m - p.2 = S + m by omega, posF_cons, ih, posF_cons p (ps.take i), mu_assoc]
theorem hL_whole {ps : List Rn} (g : GoodR ps) : posF (hL ps (sumR ps)) = posF ps := by
  have s0 := sumR_nn g
  have h1 := ht_pos g s0
  have h2 := ht_sum ps (sumR ps)
  have h3 := hL_sum g s0 (Int.le_refl _)
  have h4 := st_walk (tL_good g s0)
  have h5 := st_nn (posF (tL ps (sumR ps)))
  have h6 : posF (tL ps (sumR ps)) = (0, 0, 0) := (st_home _).mp (by omega)
  rw [h6, (mu_home _).1] at h1
  exact h1
theorem LPs_whole {ps : List Rn} (g : GoodR ps) : LPs ps (sumR ps) ↔ stF (posF ps) = sumR ps := by unfold LPs; rw [hL_whole g]
def FNo (ps : List Rn) : Option Int → Prop
  | none => LPs ps (sumR ps)
  | some n => 0 < n ∧ n ≤ sumR ps ∧ LPs ps (n - 1) ∧ ¬ LPs ps n
theorem FNo.uniq {ps : List Rn} (g : GoodR ps) : ∀ {a b : Option Int}, FNo ps a → FNo ps b → a = b
  | none, none, _, _ => rfl
  | none, some n, ha, hb => absurd (LPs.mono g (by have := hb.1; omega) hb.2.1 (Int.le_refl _) ha) hb.2.2.2
  | some n, none, ha, hb => absurd (LPs.mono g (by have := ha.1; omega) ha.2.1 (Int.le_refl _) hb) ha.2.2.2
  | some n, some m, ha, hb => by
    have h1 : ¬ n < m := fun h => ha.2.2.2 (LPs.mono g (by have := ha.1; omega) (show n ≤ m - 1 by omega) (by have := hb.2.1; omega) hb.2.2.1)
    have h2 : ¬ m < n := fun h => hb.2.2.2 (LPs.mono g (by have := hb.1; omega) (show m ≤ n - 1 by omega) (by have := ha.2.1; omega) ha.2.2.1)
    rw [show n = m by omega]
theorem FNo.none_iff {ps : List Rn} (g : GoodR ps) {o : Option Int} (h : FNo ps o) : o = none ↔ stF (posF ps) = sumR ps := by
  rw [← LPs_whole g]
  constructor
  · rintro rfl; exact h
  · intro l; exact FNo.uniq g h l
/-- where letters lead, one by one -/
def posE (l : List Str) : T3 := posF (l.map fun c => (c, (1 : Int)))
theorem exp_good {ps : List Rn} (g : GoodR ps) : GoodR ((expR ps).map fun c => (c, (1 : Int))) := by
  intro p hp
  obtain ⟨c, hc, rfl⟩ := List.mem_map.mp hp
  exact ⟨exp_mem g hc, by show (0 : Int) ≤ 1; omega⟩
theorem posE_exp {ps : List Rn} (g : GoodR ps) : posF ps = posE (expR ps) := by
  have h1 := joinF_pos g
  have h2 := joinF_pos (exp_good g)
  rw [← h1, joinF_exp g]
  unfold posE
  rw [← h2, joinF_runs (exp_good g)]
  rfl
theorem exp_take {ps : List Rn} (g : GoodR ps) {n : Int} (h0 : 0 ≤ n) (h1 : n ≤ sumR ps) : expR (hL ps n) = (expR ps).take n.toNat := by
  have e := ht_exp g h0
  have l := exp_len (hL_good g h0)
  rw [hL_sum g h0 h1] at l
  rw [← e, List.take_left' (by omega)]
theorem hL_exp {ps qs : List Rn} (g : GoodR ps) (g' : GoodR qs) {m : Int} (h0 : 0 ≤ m) (h1 : m ≤ sumR ps) (h2 : m ≤ sumR qs) (e : (expR ps).take m.toNat = (expR qs).take m.toNat) : posF (hL ps m) = posF (hL qs m) := by
  rw [posE_exp (hL_good g h0), posE_exp (hL_good g' h0), exp_take g h0 h1, exp_take g' h0 h2, e]
theorem hL_join {ps : List Rn} (g : GoodR ps) {m : Int} (h0 : 0 ≤ m) (h1 : m ≤ sumR ps) : posF (hL (joinF ps) m) = posF (hL ps m) :=
  hL_exp (joinF_good g) g h0 (by rw [joinF_sum g]; exact h1) h1 (by rw [exp_join g])
theorem hL_app {A C : List Rn} (g : GoodR A) (g' : GoodR C) {m : Int} (h0 : 0 ≤ m) (h1 : m ≤ sumR A) : posF (hL (A ++ C) m) = posF (hL A m) := by
  have l := exp_len g
  refine hL_exp (g.append g') g h0 (by rw [sumR_append]; have := sumR_nn g'; omega) h1 ?_
  rw [expR_append, List.take_append_of_le_length (by omega)]
theorem FNo.join {ps : List Rn} (g : GoodR ps) : ∀ {o : Option Int}, FNo ps o → FNo (joinF ps) o
  | none, h => by
    unfold FNo LPs at *
    rw [joinF_sum g, hL_join g (sumR_nn g) (Int.le_refl _)]
    exact h
  | some n, h => by
    obtain ⟨h1, h2, h3, h4⟩ := h
    show 0 < n ∧ n ≤ sumR (joinF ps) ∧ stF (posF (hL (joinF ps) (n - 1))) = n - 1 ∧ ¬ stF (posF (hL (joinF ps) n)) = n
    rw [joinF_sum g, hL_join g (show 0 ≤ n by omega) h2, hL_join g (show 0 ≤ n - 1 by omega) (by omega)]
    exact ⟨h1, h2, h3, h4⟩
theorem FNo.app {A C : List Rn} (g : GoodR A) (g' : GoodR C) (h : stF (posF A) = sumR A) {n : Int} (hn : FNo (joinF (A ++ C)) (some n)) : sumR A < n := by
  obtain ⟨h1, h2, h3, h4⟩ := hn
  rw [joinF_sum (g.append g')] at h2
  apply Int.not_le.mp
  intro c
  apply h4
  unfold LPs
  rw [hL_join (g.append g') (by omega) h2, hL_app g g' (by omega) c]
  exact (part_least g h (by omega) c).1
abbrev lastF (ps : List Rn) (o : Option Int) : Int := match o with | none => sumR ps | some n => n - 1
/-- what holds at each lesser number -/
theorem FNo.below {ps : List Rn} (g : GoodR ps) : ∀ {o : Option Int}, FNo ps o → ∀ {m : Int}, 0 ≤ m → m ≤ lastF ps o → LPs ps m
  | none, h, m, h0, h1 => LPs.mono g h0 h1 (Int.le_refl _) h
  | some n, h, m, h0, h1 => LPs.mono g h0 (show m ≤ n - 1 from h1) (by have := h.2.1; omega) h.2.2.1
end AW

set_option linter.all false
set_option maxRecDepth 100000
set_option maxHeartbeats 8000000
namespace AW
open PySem PySem.Spec PyProof.Rows L2 LamX Fewest
variable [Tbs]
section
variable {P : Program} {w : World} {K : PySem.W.Frag} {mg : Str → Option Value} {base : Heap} [CDict K w "DIRECTIONS" L_DIRECTIONS]
theorem dir_bd {c : Str} : Bd 3 (dx c) ∧ Bd 3 (dy c) := by
  unfold dx dy Bd
  constructor <;> (repeat' split) <;> decide
theorem neA {α : Type} {x y : α} {i : Decidable (x = y)} {A : Prop} (e : x = y) (h : (!decide (x = y)) = true) : A := by subst e; simp at h
theorem ntA {X : Prop} {i : Decidable X} {A : Prop} (e : X) (h : (!decide X) = true) : A := by rw [decide_eq_true e] at h; cases h
def pr_run_place (T : Tx K mg) : Pr := fun ds B k e => ∃ (c : Str) (t : Int), ds = [.str c, .int t] ∧ c ∈ chS "enws" ∧ Bd 3000 t ∧ k (plT T (posF [(c, t)])) B
theorem okD_run_place (T : Tx K mg) : FnOk P w K mg base (L2.CX P w) 6 T.a_run_place T.d_run_place P_run_place (spD K (pr_run_place T)) := by
  refine T.F_run_place.okX sc_run_place (spD_len fun ds B k e h => by obtain ⟨c, t, rfl, hc, bt, hk⟩ := h; rfl) (fun cdv A outer s H vs Q E hr h => ?_)
  have G_Place_init : FnOk P w K mg base (L2.CX P w) _ _ _ _ _ := okD_Place_init T
  obtain ⟨G, ds, B, k, e, hs, hR, ⟨c, t, rfl, hc, bt, hk⟩, hK, hX⟩ := h
  refine ⟨_, (pss_cons (ps_asg (pe_cdict (cd := (inferInstance : CDict K w "DIRECTIONS" L_DIRECTIONS)) (by decide) (by rfl) T.ns_DIRECTIONS T.gc_DIRECTIONS (pv 0) (fun _ _ => rfl)) (pg_tup rfl (pgs_cons (pg_name (i := 2) sc_run_place.nd rfl (.inl rfl)) (pgs_cons (pg_name (i := 3) sc_run_place.nd rfl (.inl rfl)) pgs_nil))))
 (pss_one (ps_ret (pe_make T.M_Place G_Place_init (hr.mono (by decide)) (by rfl) T.g_C_Place T.b_Place_init .nil passL (pa_cons (pe_op op_mulW (pv 2) (pv 1)) (pa_cons (pe_op op_mulW (pv 3) (pv 1)) (pa_cons pe_int pa_nil))))))), run_body (ρ := [some (.str c), some (.int t), none, none]) hs hR hK hX rfl ?_⟩
  have b := dir_bd (c := c)
  rw [posF_run] at hk
  refine ws_seq <| ws_asg <| we_cdict <| we_var rfl ⟨c, [dx c, dy c], rfl, look_dir hc, wg_tup rfl <| wgs_cons <| wg_name <| wgs_cons <| wg_name <| wgs_nil ?_⟩
  have c1 : CMulW (dx c) t := cmw (b.1.mono (by decide)) (bt.mono (by decide))
  have c2 : CMulW (dy c) t := cmw (b.2.mono (by decide)) (bt.mono (by decide))
  exact ws_ret <| we_place T <| wa_cons <| we_op <| we_var rfl <| we_var rfl <| ro_i c1 <| wa_cons <| we_op <| we_var rfl <| we_var rfl <| ro_i c2 <| wa_cons <| we_int <| wa_nil ⟨_, _, _, rfl, hk⟩
theorem mu_bd {p : T3} {c : Str} {m : Int} (hb : Bd 1400 p.1 ∧ Bd 1400 p.2.1 ∧ Bd 2900 p.2.2) (bm : Bd 1400 m) : Bd 3000 (mu p (posF [(c, m)])).1 ∧ Bd 3000 (mu p (posF [(c, m)])).2.1 ∧ Bd 3000 (mu p (posF [(c, m)])).2.2 := by
  obtain ⟨b1, b2⟩ := dir_bd (c := c)
  have h1 : Bd 1410 (dx c * m) := (b1.mul bm).mono (by decide)
  have h2 : Bd 1410 (dy c * m) := (b2.mul bm).mono (by decide)
  rw [posF_run]
  refine ⟨(Bd.add (hb.1.mono (show 1400 ≤ 1410 by decide)) h1).mono (by decide), (Bd.add (hb.2.1.mono (show 1400 ≤ 1410 by decide)) h2).mono (by decide), ?_⟩
  show Bd 3000 (p.2.2 + 0 + p.1 * (dy c * m))
  rw [Int.add_zero]
  exact (Bd.add hb.2.2 ((hb.1.mul h2).mono (show 1400 + 1410 ≤ 2900 by decide))).mono (by decide)
def pr_first_too_many (T : Tx K mg) : Pr := fun ds B k e => ∃ (p : T3) (c : Str) (done t : Int), ds = [plT T p, .str c, .int done, .int t] ∧ c ∈ chS "enws" ∧ (Bd 1400 p.1 ∧ Bd 1400 p.2.1 ∧ Bd 2900 p.2.2) ∧ Bd 1400 t ∧ 0 ≤ t ∧ stF p = done ∧ stF (mu p (posF [(c, t)])) ≠ done + t ∧
  ∀ h : Int, 0 < h → h ≤ t → stF (mu p (posF [(c, h - 1)])) = done + (h - 1) → stF (mu p (posF [(c, h)])) ≠ done + h → k (.int h) B
theorem okD_first_too_many (T : Tx K mg) : FnOk P w K mg base (L2.CX P w) 7 T.a_first_too_many T.d_first_too_many P_first_too_many (spD K (pr_first_too_many T)) := by
  refine T.F_first_too_many.okX sc_first_too_many (spD_len fun ds B k e h => by obtain ⟨p, c, done, t, rfl, hc, hb, bt, t0, hd, hn, hk⟩ := h; rfl) (fun cdv A outer s H vs Q E hr h => ?_)
  have G_Place_mul : FnOk P w K mg base (L2.CX P w) 6 _ _ _ _ := okD_Place_mul T
  have G_fewest_steps : FnOk P w K mg base (L2.CX P w) 2 _ _ _ _ := okD_fewest_steps T
  have G_run_place : FnOk P w K mg base (L2.CX P w) 6 _ _ _ _ := okD_run_place T
  obtain ⟨G, ds, B, k, e, hs, hR, ⟨p, c, done, t, rfl, hc, hb, bt, t0, hd, hn, hk⟩, hK, hX⟩ := h
  refine ⟨_, (pss_cons (ps_par (i := 4) (j := 5) (by rfl) sc_first_too_many.nd rfl rfl (by decide) rfl rfl (pa_cons pe_int (pa_cons (pv 3) pa_nil)) (by rfl))
 (pss_cons (ps_while (passes_of rfl) (pt_cmpR op_gt (pe_op op_sub (pv 5) (pv 4)) pe_int (nomark _))
 (pss_cons (ps_set (i := 6) sc_first_too_many.nd rfl (.inl rfl) (pe_op op_fdivW (pe_op op_add (pv 4) (pv 5)) pe_int))
 (pss_one (ps_if (pt_cmpR op_eq (pe_call G_fewest_steps (hr.mono (by decide)) (by rfl) T.g_fewest_steps T.F_fewest_steps.kp T.b_fewest_steps .nil passL (pa_cons (pe_op (op_ownO T.O_Place_Mult G_Place_mul (hr.mono (by decide)) T.b_Place_mul passL) (pv 0) (pe_call G_run_place (hr.mono (by decide)) (by rfl) T.g_run_place T.F_run_place.kp T.b_run_place .nil passL (pa_cons (pv 1) (pa_cons (pv 6) pa_nil)))) pa_nil)) (pe_op op_add (pv 2) (pv 6)) (nomark _))
 (pss_one (ps_set (i := 4) sc_first_too_many.nd rfl (.inl rfl) (pv 6)))
 (pss_one (ps_set (i := 5) sc_first_too_many.nd rfl (.inl rfl) (pv 6)))))))
 (pss_one (ps_ret (pv 5))))), run_body (ρ := [some (plT T p), some (.str c), some (.int done), some (.int t), none, none, none]) hs hR hK hX rfl ?_⟩
  have z2 : 2 ≤ sizeLine := by decide
  have e0 : posF [(c, (0 : Int))] = (0, 0, 0) := by rw [posF_run]; simp
  have tp : 0 < t := by
    apply Int.not_le.mp
    intro h
    obtain rfl : t = 0 := by omega
    rw [e0, (mu_home _).1] at hn
    omega
  refine ws_cut (fun ρ' B' => ρ' = [some (plT T p), some (.str c), some (.int done), some (.int t), some (.int 0), some (.int t), none] ∧ B = B') ?_ ?_
  · exact ws_par <| wa_cons <| we_int <| wa_cons <| we_var rfl <| wa_nil ⟨_, _, rfl, rfl, rfl⟩
  rintro _ _ ⟨rfl, rfl⟩
  refine ws_cut (fun ρ' B' => ∃ (lo hi : Int) (o6 : Option D), ρ' = [some (plT T p), some (.str c), some (.int done), some (.int t), some (.int lo), some (.int hi), o6] ∧ (0 ≤ lo ∧ lo < hi ∧ hi ≤ t ∧ hi - lo ≤ 1 ∧ stF (mu p (posF [(c, lo)])) = done + lo ∧ stF (mu p (posF [(c, hi)])) ≠ done + hi) ∧ B = B') ?_ ?_
  · refine ws_while (fun n ρ' B' => ∃ (lo hi : Int) (o6 : Option D), ρ' = [some (plT T p), some (.str c), some (.int done), some (.int t), some (.int lo), some (.int hi), o6] ∧ (0 ≤ lo ∧ lo < hi ∧ hi ≤ t ∧ (hi - lo).toNat = n ∧ stF (mu p (posF [(c, lo)])) = done + lo ∧ stF (mu p (posF [(c, hi)])) ≠ done + hi) ∧ B = B') (t - 0).toNat ⟨0, t, none, rfl, ⟨by omega, tp, by omega, rfl, by rw [e0, (mu_home _).1]; omega, hn⟩, rfl⟩ fun n ρ' B' hI => ?_
    obtain ⟨lo, hi, o6, rfl, ⟨h1, h2, h3, h4, h5, h6⟩, rfl⟩ := hI
    refine wt_test <| we_op <| we_op <| we_var rfl <| we_var rfl <| ro_i0 <| we_int <| ro_b0 ⟨_, rfl, fun c1 => ?_, fun c1 => ?_⟩
    · have c1 : hi - lo > 1 := of_decide_eq_true c1
      refine ws_seq <| ws_set <| we_op <| we_op <| we_var rfl <| we_var rfl <| ro_i0 <| we_int <| ro_i ⟨by decide, by decide⟩ ?_
      show Ws K _ _ _ [some (plT T p), some (.str c), some (.int done), some (.int t), some (.int lo), some (.int hi), some (.int ((lo + hi) / 2))] _ _
      obtain ⟨md, hmd⟩ : ∃ z : Int, z = (lo + hi) / 2 := ⟨_, rfl⟩
      rw [← hmd]
      have bm : Bd 1400 md := by
        unfold Bd at bt ⊢
        omega
      have hmb := mu_bd (c := c) hb bm
      have cm : CMulW p.1 (dy c * md) := cmw (hb.1.mono (by decide)) (((dir_bd (c := c)).2.mul bm).mono (show 3 + 1400 ≤ 8000 by decide))
      refine ws_if <| wt_test <| we_op <| we_call <| wa_cons <| we_op <| we_var rfl <| we_call <| wa_cons <| we_var rfl <| wa_cons <| we_var rfl <| wa_nil ⟨c, md, rfl, hc, bm.mono (by decide), ro_own T ⟨_, _, _, _, _, _, rfl, by rw [posF_run]; exact cm, wa_nil ⟨mu p (posF [(c, md)]), rfl, hmb.1, hmb.2.1, hmb.2.2, we_op <| we_var rfl <| we_var rfl <| ro_i0 <| ro_eqI ⟨_, rfl, fun c2 => ?_, fun c2 => ?_⟩⟩⟩⟩
      · exact ws_set <| we_var rfl ⟨(hi - md).toNat, by omega, md, hi, _, rfl, ⟨by omega, by omega, h3, rfl, of_decide_eq_true c2, h6⟩, rfl⟩
      · exact ws_set <| we_var rfl ⟨(md - lo).toNat, by omega, lo, md, _, rfl, ⟨h1, by omega, by omega, rfl, h5, of_decide_eq_false c2⟩, rfl⟩
    · exact ⟨lo, hi, o6, rfl, ⟨h1, h2, h3, Int.not_lt.mp (of_decide_eq_false c1), h5, h6⟩, rfl⟩
  rintro _ _ ⟨lo, hi, o6, rfl, ⟨h1, h2, h3, h4, h5, h6⟩, rfl⟩
  have e : lo = hi - 1 := by omega
  subst e
  exact ws_ret <| we_var rfl <| hk hi (by omega) h3 h5 h6
def pr_Walk_is_least (T : Tx K mg) : Pr := fun ds B k e => ∃ ps : List Rn, ds = [wkD T ps] ∧ RnOk ps ∧ (Bd 3000 (posF ps).1 ∧ Bd 3000 (posF ps).2.1 ∧ Bd 3000 (posF ps).2.2) ∧ k (.bl (decide (stF (posF ps) = sumR ps))) B
theorem okD_Walk_is_least (T : Tx K mg) : FnOk P w K mg base (L2.CX P w) 7 T.a_Walk_is_least T.d_Walk_is_least P_Walk_is_least (spD K (pr_Walk_is_least T)) := by
  refine T.F_Walk_is_least.okX sc_Walk_is_least (spD_len fun ds B k e h => by obtain ⟨ps, rfl, hr', hb, hk⟩ := h; rfl) (fun cdv A outer s H vs Q E hr h => ?_)
  have G_Walk_length : FnOk P w K mg base (L2.CX P w) 1 _ _ _ _ := okD_Walk_length T
  have G_Walk_place : FnOk P w K mg base (L2.CX P w) 6 _ _ _ _ := okD_Walk_place T
  have G_fewest_steps : FnOk P w K mg base (L2.CX P w) 2 _ _ _ _ := okD_fewest_steps T
  obtain ⟨G, ds, B, k, e, hs, hR, ⟨ps, rfl, hr', hb, hk⟩, hK, hX⟩ := h
  refine ⟨_, (pss_one (ps_ret (pe_cmpR op_eq (pe_call G_fewest_steps (hr.mono (by decide)) (by rfl) T.g_fewest_steps T.F_fewest_steps.kp T.b_fewest_steps .nil passL (pa_cons (pe_meth0 (pv 0) T.cl_Walk T.M_Walk_place G_Walk_place (hr.mono (by decide)) T.b_Walk_place .nil passL) pa_nil)) (pe_prop (pv 0) T.cl_Walk T.Q_Walk_length G_Walk_length (hr.mono (by decide)) T.b_Walk_length .nil passL rfl) (nomark _)))), run_body (ρ := [some (wkD T ps)]) hs hR hK hX rfl ?_⟩
  exact ws_ret <| we_op <| we_call <| wa_cons <| we_meth0 <| we_var rfl ⟨_, _, rfl, by decide +kernel, ⟨ps, rfl, hr', wa_nil ⟨posF ps, rfl, hb.1, hb.2.1, hb.2.2, we_prop <| we_var rfl ⟨_, _, rfl, ps, rfl, hr'.1, ro_eqI hk⟩⟩⟩⟩
end
end AW

set_option linter.all false
set_option maxRecDepth 100000
set_option maxHeartbeats 8000000
namespace AW
open PySem PySem.Spec PyProof.Rows L2 LamX Fewest
variable [Tbs]
section
variable {P : Program} {w : World} {K : PySem.W.Frag} {mg : Str → Option Value} {base : Heap} [CDict K w "DIRECTIONS" L_DIRECTIONS]
abbrev WkB (ps : List Rn) : Prop := GoodR ps ∧ ps.length ≤ 100 ∧ Bd 1000 (sumR ps)
theorem pos_bd {ps : List Rn} (h : WkB ps) : Bd 1400 (posF ps).1 ∧ Bd 1400 (posF ps).2.1 ∧ Bd 2900 (posF ps).2.2 := by
  obtain ⟨hg, _, hb⟩ := h
  have h0 := sumR_nn hg
  obtain ⟨h1, h2⟩ := posF_abs hg
  have h3 := posF_area hg
  have b2 : Bd 2000 (sumR ps * sumR ps) := hb.mul hb
  have nn : 0 ≤ sumR ps * sumR ps := Int.mul_nonneg h0 h0
  refine ⟨Bd.mono (k := 1000) ?_ (by decide), Bd.mono (k := 1000) ?_ (by decide), Bd.mono (k := 2000) ?_ (by decide)⟩
  · unfold Bd ab at *; omega
  · unfold Bd ab at *; omega
  · unfold Bd ab at *
    generalize sumR ps * sumR ps = z at *
    omega
theorem WkB.take {ps : List Rn} (h : WkB ps) (i : Nat) : WkB (ps.take i) := by
  have h1 := sumR_take h.1 i
  have h2 := sumR_nn (h.1.take i)
  refine ⟨h.1.take i, by rw [List.length_take]; have := h.2.1; omega, ?_⟩
  have := h.2.2
  unfold Bd at *
  omega
theorem WkB.rn {ps : List Rn} (h : WkB ps) : RnOk ps := RnOk.of h.1 (by have := h.2.1; omega) (h.2.2.mono (by decide))
def plOf (T : Tx K mg) : D → D
  | .tup [.int x, .int y, .int a] => pl T x y a
  | d => d
abbrev optD : Option Int → D
  | none => .non
  | some n => .int n
theorem ix_nat (xs : List D) (n : Nat) {d : D} (h : xs[n]? = some d) : atI xs (n : Int) = some d := atI_get h
theorem corn_at (T : Tx K mg) (ps : List Rn) {i : Nat} (h : i ≤ ps.length) : ((cornF ps).map (plT T))[i]? = some (plT T (posF (ps.take i))) := by
  unfold cornF
  rw [List.map_map, List.getElem?_map, List.getElem?_range (by omega)]
  rfl
def pr_Walk_first_not_least (T : Tx K mg) : Pr := fun ds B k e => ∃ ps : List Rn, ds = [wkD T ps] ∧ WkB ps ∧ ∀ o, FNo ps o → k (optD o) B
theorem okD_Walk_first_not_least (T : Tx K mg) : FnOk P w K mg base (L2.CX P w) 8 T.a_Walk_first_not_least T.d_Walk_first_not_least P_Walk_first_not_least (spD K (pr_Walk_first_not_least T)) := by
  refine T.F_Walk_first_not_least.okX sc_Walk_first_not_least (spD_len fun ds B k e h => by obtain ⟨ps, rfl, hw, hk⟩ := h; rfl) (fun cdv A outer s H vs Q E hr h => ?_)
  have G_Place_init : FnOk P w K mg base (L2.CX P w) _ _ _ _ _ := okD_Place_init T
  have G_corners : FnOk P w K mg base (L2.CX P w) 1 _ _ _ _ := okD_corners T
  have G_fewest_steps : FnOk P w K mg base (L2.CX P w) 2 _ _ _ _ := okD_fewest_steps T
  have G_first_too_many : FnOk P w K mg base (L2.CX P w) 7 _ _ _ _ := okD_first_too_many T
  obtain ⟨G, ds, B, k, e, hs, hR, ⟨ps, rfl, hw, hk⟩, hK, hX⟩ := h
  refine ⟨_, (pss_cons (ps_setLc (i := 1) (te := (tMake T.C_Place (spI K T.C_Place ["x", "y", "area"] pr_Place_init) [] E0 (StX.tStar K (tVar 6) tNil))) (own := [("point", 6)]) (g := gName 6) (by rfl) sc_Walk_first_not_least.nd rfl rfl (sw_true rfl rfl rfl (by decide +kernel)) (pi_list (pe_call G_corners (hr.mono (by decide)) (by rfl) T.g_corners T.F_corners.kp T.b_corners .nil passL (pa_cons (pe_fld (pv 0) rfl) pa_nil))) (blkOk_by (own := [("point", 6)]) (N := N_Walk_first_not_least) (sc := defScope s_Walk_first_not_least) (by decide +kernel)) (fun _ _ _ _ _ => pg_name (i := 6) sc_Walk_first_not_least.nd rfl (Or.inl rfl)) (fun _ _ _ _ _ => pts_nil) (fun _ _ _ _ _ => (pe_makeS T.M_Place G_Place_init (hr.mono (by decide)) (by rfl) T.g_C_Place T.b_Place_init .nil passL (pv 6))))
 (pss_cons (ps_set (i := 2) sc_Walk_first_not_least.nd rfl (.inl rfl) pe_int)
 (pss_cons (ps_for (passes_of rfl) rfl (pi_enumT (by rfl) T.n_enumerate (pa_cons (pe_fld (pv 0) rfl) pa_nil)) (pg_tup rfl (pgs_cons (pg_name (i := 3) sc_Walk_first_not_least.nd rfl (.inl rfl)) (pgs_cons (pg_tup rfl (pgs_cons (pg_name (i := 4) sc_Walk_first_not_least.nd rfl (.inl rfl)) (pgs_cons (pg_name (i := 5) sc_Walk_first_not_least.nd rfl (.inl rfl)) pgs_nil))) pgs_nil)))
 (pss_cons (ps_if (pt_cmpR op_ne (pe_call G_fewest_steps (hr.mono (by decide)) (by rfl) T.g_fewest_steps T.F_fewest_steps.kp T.b_fewest_steps .nil passL (pa_cons (pe_ix ix_list (pv 1) (pe_op op_add (pv 3) pe_int) (fun _ _ => rfl)) pa_nil)) (pe_op op_add (pv 2) (pv 5)) (nomark _))
 (pss_one (ps_ret (pe_op op_add (pv 2) (pe_call G_first_too_many (hr.mono (by decide)) (by rfl) T.g_first_too_many T.F_first_too_many.kp T.b_first_too_many .nil passL (pa_cons (pe_ix ix_list (pv 1) (pv 3) (fun _ _ => rfl)) (pa_cons (pv 4) (pa_cons (pv 2) (pa_cons (pv 5) pa_nil))))))))
 pss_nil)
 (pss_one (ps_set (i := 2) sc_Walk_first_not_least.nd rfl (.inl rfl) (pe_op op_add (pv 2) (pv 5))))))
 (pss_one (ps_ret pe_non))))), run_body (ρ := [some (wkD T ps), none, none, none, none, none, none]) hs hR hK hX rfl ?_⟩
  obtain ⟨hg, hl, hb⟩ := id hw
  have zL : 16000000 < sizeLine := by decide
  have hcl : (cornF ps).length = ps.length + 1 := by unfold cornF; rw [List.length_map, List.length_range]
  refine ws_cut (fun ρ' B' => ρ' = [some (wkD T ps), some (.lst ((cornF ps).map (plT T))), none, none, none, none, none] ∧ B = B') ?_ ?_
  · refine ws_set <| we_lc_mapL (E1 := E0) (f := plOf T) <| we_call <| wa_cons <| we_fld <| we_var rfl ⟨_, _, _, _, rfl, T.cl_Walk, T.na_Walk_runs, rfl, wa_nil ⟨ps, rfl, hw.rn, ⟨_, rfl, by rw [List.length_map]; omega, fun d hd k' hk' => ?_, ?_⟩⟩⟩
    · obtain ⟨p, _, rfl⟩ := List.mem_map.mp hd
      exact we_place T <| wa_star <| we_var rfl ⟨_, .inr rfl, wa_nil ⟨_, _, _, rfl, hk'⟩⟩
    · rw [List.map_map]; exact ⟨rfl, rfl⟩
  rintro _ _ ⟨rfl, rfl⟩
  refine ws_seq <| ws_set <| we_int ?_
  refine ws_cut (fun ρ' B' => ∃ o3 o4 o5, ρ' = [some (wkD T ps), some (.lst ((cornF ps).map (plT T))), some (.int (sumR ps)), o3, o4, o5, none] ∧ LPs ps (sumR ps) ∧ B = B') ?_ ?_
  · refine ws_for_enumT <| wa_cons <| we_fld <| we_var rfl ⟨_, _, _, _, rfl, T.cl_Walk, T.na_Walk_runs, rfl, wa_nil ⟨ps.map prD, rfl, fun i ρ' B' => ∃ o3 o4 o5, ρ' = [some (wkD T ps), some (.lst ((cornF ps).map (plT T))), some (.int (sumR (ps.take i))), o3, o4, o5, none] ∧ LPs ps (sumR (ps.take i)) ∧ B = B', ⟨_, _, _, rfl, ?_, rfl⟩, fun i x ρ' B' hi hI => ?_, fun ρ' B' hI => ?_⟩⟩
    · show stF (posF (hL ps 0)) = 0
      rw [(hL_zero hg).1]; exact st_home0
    · obtain ⟨o3, o4, o5, rfl, hLP, rfl⟩ := hI
      rw [List.getElem?_map] at hi
      obtain ⟨⟨c, t⟩, hq, rfl⟩ := Option.map_eq_some_iff.mp hi
      have hil : i < ps.length := (List.getElem?_eq_some_iff.mp hq).1
      obtain ⟨hc, t0⟩ := hg _ (List.mem_of_getElem? hq)
      have t0 : 0 ≤ t := t0
      have ht : ps.take (i + 1) = ps.take i ++ [(c, t)] := by rw [List.take_add_one, hq]; rfl
      have hS : sumR (ps.take (i + 1)) = sumR (ps.take i) + t := by rw [ht, sumR_append]; show _ + (t + 0) = _; omega
      have hP : posF (ps.take (i + 1)) = mu (posF (ps.take i)) (posF [(c, t)]) := by rw [ht, posF_append]
      have hS2 := sumR_take hg (i + 1)
      have hS0 := sumR_nn (hg.take i)
      have b1 := pos_bd (hw.take i)
      have b2 := pos_bd (hw.take (i + 1))
      have bt : Bd 1400 t := by
        refine Bd.mono (k := 1000) ?_ (by decide)
        unfold Bd at hb ⊢
        omega
      have at0 := hL_at hg hq (Int.le_refl 0) t0
      have e0 : posF [(c, (0 : Int))] = (0, 0, 0) := by rw [posF_run]; simp
      rw [e0, (mu_home _).1, Int.add_zero] at at0
      have hLP' : stF (posF (ps.take i)) = sumR (ps.take i) := by rw [← at0]; exact hLP
      refine wg_tup rfl <| wgs_cons <| wg_name <| wgs_cons (wg_tup rfl <| wgs_cons <| wg_name <| wgs_cons <| wg_name <| wgs_nil <| wgs_nil ?_)
      refine ws_seq <| ws_if <| wt_test <| we_op <| we_call <| wa_cons <| we_op <| we_var rfl <| we_op <| we_var rfl <| we_int <| ro_i0 <| ro_ixL (d := plT T (posF (ps.take (i + 1)))) (ix_nat _ (i + 1) (corn_at T ps (by omega))) <| wa_nil ⟨posF (ps.take (i + 1)), rfl, b2.1.mono (by decide), b2.2.1.mono (by decide), b2.2.2.mono (by decide), we_op <| we_var rfl <| we_var rfl <| ro_i0 <| ro_neI ⟨_, rfl, fun h => ?_, fun h => ws_next ?_⟩⟩
      · have h := ne_of_dec h
        refine ws_ret <| we_op <| we_var rfl <| we_call <| wa_cons <| we_op <| we_var rfl <| we_var rfl <| ro_ixL (d := plT T (posF (ps.take i))) (ix_nat _ i (corn_at T ps (by omega))) <| wa_cons <| we_var rfl <| wa_cons <| we_var rfl <| wa_cons <| we_var rfl <| wa_nil ⟨posF (ps.take i), c, sumR (ps.take i), t, rfl, hc, b1, bt, t0, hLP', by rw [← hP]; exact h, fun n n0 n1 l1 l2 => ro_i0 <| hk (some (sumR (ps.take i) + n)) ⟨by omega, by omega, ?_, ?_⟩⟩
        · have := hL_at hg hq (show 0 ≤ n - 1 by omega) (show n - 1 ≤ t by omega)
          show stF (posF (hL ps (sumR (ps.take i) + n - 1))) = _
          rw [show sumR (ps.take i) + n - 1 = sumR (ps.take i) + (n - 1) by omega, this]
          exact l1
        · have := hL_at hg hq (show 0 ≤ n by omega) n1
          show ¬ stF (posF (hL ps (sumR (ps.take i) + n))) = _
          rw [this]
          exact l2
      · have h := eq_of_dec h
        refine ws_set <| we_op <| we_var rfl <| we_var rfl <| ro_i0 ⟨_, _, _, by rw [hS]; rfl, ?_, rfl⟩
        have := hL_at hg hq t0 (Int.le_refl t)
        show stF (posF (hL ps (sumR (ps.take (i + 1))))) = _
        rw [hS, this, ← hP]
        exact h
    · obtain ⟨o3, o4, o5, rfl, hLP, rfl⟩ := hI
      rw [List.length_map, List.take_length] at *
      exact ⟨_, _, _, rfl, hLP, rfl⟩
  rintro _ _ ⟨o3, o4, o5, rfl, hLP, rfl⟩
  exact ws_ret <| we_non (hk none hLP)
end
end AW

set_option linter.all false
set_option maxRecDepth 100000
set_option maxHeartbeats 8000000
namespace AW
open PySem PySem.Spec PyProof.Rows L2 LamX Fewest
variable [Tbs]
section
variable {P : Program} {w : World} {K : PySem.W.Frag} {mg : Str → Option Value} {base : Heap} [CDict K w "DIRECTIONS" L_DIRECTIONS]
theorem dir_bd1 {c : Str} : Bd 3 (dx c * 1) ∧ Bd 3 (dy c * 1) := by
  unfold dx dy Bd
  constructor <;> (repeat' split) <;> decide
def mvS (c : Str) (p : T3) : T3 := (p.1 + dx c * 1, p.2.1 + dy c * 1, p.2.2 + 0 + p.1 * (dy c * 1))
def bkS (c : Str) (p : T3) : T3 := (-(dx c * 1) + p.1, -(dy c * 1) + p.2.1, dx c * 1 * (dy c * 1) - 0 + p.2.2 + -(dx c * 1) * p.2.1)
theorem rp1 (T : Tx K mg) {c0 : Str} {B : Int} {k : KD} {e : EW} (h : ∃ c : Str, ([.str c0, .int 1] : List D) = [.str c, .int 1] ∧ c ∈ chS "enws" ∧ k (pl T (dx c * 1) (dy c * 1) 0) B) : pr_run_place T [.str c0, .int 1] B k e := by
  obtain ⟨c, e1, hc, hk⟩ := h
  refine ⟨c, 1, e1, hc, Nat.one_lt_two_pow (by decide), ?_⟩
  rw [posF_run]
  exact hk
noncomputable def nearS (p : T3) : List Str := (chS "enws").filter fun c => decide (stF (mvS c p) < stF p)
noncomputable def frstS (p : T3) : List Str := (chS "enws").filter fun c => decide (stF (bkS c p) < stF p)
theorem mv_bd {p : T3} {c : Str} {m : Nat} (h : Bd m p.1 ∧ Bd m p.2.1 ∧ Bd m p.2.2) (hm : 3 ≤ m) : Bd (2 * m + 1) (mvS c p).1 ∧ Bd (2 * m + 1) (mvS c p).2.1 ∧ Bd (2 * m + 1) (mvS c p).2.2 := by
  obtain ⟨b1, b2⟩ := dir_bd1 (c := c)
  have := h.1.mul b2
  refine ⟨(Bd.add h.1 (b1.mono hm)).mono (by omega), (Bd.add h.2.1 (b2.mono hm)).mono (by omega), ?_⟩
  show Bd _ (p.2.2 + 0 + p.1 * (dy c * 1))
  rw [Int.add_zero]
  exact (Bd.add (h.2.2.mono (show m ≤ 2 * m by omega)) (this.mono (show m + 3 ≤ 2 * m by omega))).mono (by omega)
theorem bk_bd {p : T3} {c : Str} {m : Nat} (h : Bd m p.1 ∧ Bd m p.2.1 ∧ Bd m p.2.2) (hm : 6 ≤ m) : Bd (2 * m + 2) (bkS c p).1 ∧ Bd (2 * m + 2) (bkS c p).2.1 ∧ Bd (2 * m + 2) (bkS c p).2.2 := by
  obtain ⟨b1, b2⟩ := dir_bd1 (c := c)
  have h3 := b1.mul b2
  have h4 := b1.neg.mul h.2.1
  refine ⟨(Bd.add (b1.neg.mono (show 3 ≤ m by omega)) h.1).mono (by omega), (Bd.add (b2.neg.mono (show 3 ≤ m by omega)) h.2.1).mono (by omega), ?_⟩
  show Bd _ (dx c * 1 * (dy c * 1) - 0 + p.2.2 + -(dx c * 1) * p.2.1)
  rw [Int.sub_zero]
  exact (Bd.add ((Bd.add (h3.mono (show 3 + 3 ≤ m by omega)) h.2.2).mono (show m + 1 ≤ 2 * m + 1 by omega)) (h4.mono (show 3 + m ≤ 2 * m + 1 by omega))).mono (by omega)
theorem join_sz (p : Str → Bool) : ((((chS "enws").filter p).map (·.length)).sum + ((chS "enws").filter p).length * ("" : Str).length ≤ 16777216) := by
  have h1 : ∀ c ∈ (chS "enws").filter p, c.length = 1 := fun c hc => by
    rcases mem_enws (List.mem_filter.mp hc).1 with rfl | rfl | rfl | rfl <;> rfl
  have h2 : ((chS "enws").filter p).length ≤ 4 := Nat.le_trans (List.length_filter_le _ _) (by rw [chS_enws]; decide)
  have h3 : ∀ L : List Str, (∀ c ∈ L, c.length = 1) → (L.map (·.length)).sum = L.length := by
    intro L
    induction L with
    | nil => intro _; rfl
    | cons c r ih => intro h; rw [List.map_cons, List.sum_cons, ih fun z hz => h z (List.mem_cons_of_mem _ hz), h c (List.mem_cons_self ..), List.length_cons]; omega
  rw [h3 _ h1, show ("" : Str).length = 0 from rfl]
  omega
def PlB (p : T3) : Prop := Bd 1000 p.1 ∧ Bd 1000 p.2.1 ∧ Bd 1000 p.2.2
def pr_nearer (T : Tx K mg) : Pr := fun ds B k e => ∃ d, ds = [d] ∧ ((∃ p : T3, d = plT T p ∧ PlB p ∧ k (.str (Txt.join "" (nearS p))) B) ∨ (plainD d = true ∧ e T.C_BadPlace (some ((["value"] : List Str), [d])) B))
theorem okD_nearer (T : Tx K mg) : FnOk P w K mg base (L2.CX P w) 8 T.a_nearer T.d_nearer P_nearer (spD K (pr_nearer T)) := by
  refine T.F_nearer.okX sc_nearer (spD_len fun ds B k e h => by obtain ⟨d, rfl, hk⟩ := h; rfl) (fun cdv A outer s H vs Q E hr h => ?_)
  have G_Place_mul : FnOk P w K mg base (L2.CX P w) 6 _ _ _ _ := okD_Place_mul T
  have G_check_place : FnOk P w K mg base (L2.CX P w) _ _ _ _ _ := okD_check_place T
  have G_fewest_steps : FnOk P w K mg base (L2.CX P w) 2 _ _ _ _ := okD_fewest_steps T
  have G_run_place : FnOk P w K mg base (L2.CX P w) 6 _ _ _ _ := okD_run_place T
  obtain ⟨G, ds, B, k, e, hs, hR, ⟨d, rfl, hk⟩, hK, hX⟩ := h
  refine ⟨_, (pss_cons (ps_expr (pe_call G_check_place (hr.mono (by decide)) (by rfl) T.g_check_place T.F_check_place.kp T.b_check_place .nil (passE (E := E)) (pa_cons (pv 0) pa_nil)))
 (pss_cons (ps_set (i := 1) sc_nearer.nd rfl (.inr rfl) (pe_call G_fewest_steps (hr.mono (by decide)) (by rfl) T.g_fewest_steps T.F_fewest_steps.kp T.b_fewest_steps .nil (passE (E := E)) (pa_cons (pv 0) pa_nil)))
 (pss_one (ps_ret (pe_join pe_str (pe_lc (tt := (tTest (tOp (rI0 fun i j => V.bl (decide (i < j))) (tCall (spD K (pr_fewest_steps T)) [] E0 (tCons (tOp (rOpO K T.C_Place .Mult (spD K (pr_Place_mul T)) E0) (tVar 0) (tCall (spD K (pr_run_place T)) [] E0 (tCons (tVar 2) (tCons (tC (.int 1)) tNil)))) tNil)) (tVar 1)))) (te := (tVar 2)) (own := [("letter", 2)]) (g := gName 2) (by rfl) sc_nearer.nd (pi_str (pe_glob (v := .str "enws") (by rfl) T.gc_LETTERS ⟨_, rfl⟩)) (blkOk_by (own := [("letter", 2)]) (N := N_nearer) (sc := defScope s_nearer) (by decide +kernel)) (fun _ _ _ _ _ => pg_name (i := 2) sc_nearer.nd rfl (Or.inl rfl)) (fun _ _ _ _ _ => (pts_one (pt_cmpR op_lt (pe_call G_fewest_steps (hr.mono (by decide)) (by rfl) T.g_fewest_steps T.F_fewest_steps.kp T.b_fewest_steps .nil passL (pa_cons (pe_op (op_ownO T.O_Place_Mult G_Place_mul (hr.mono (by decide)) T.b_Place_mul passL) (pv 0) (pe_call G_run_place (hr.mono (by decide)) (by rfl) T.g_run_place T.F_run_place.kp T.b_run_place .nil passL (pa_cons (pv 2) (pa_cons pe_int pa_nil)))) pa_nil)) (pv 1) (nomark _)))) (fun _ _ _ _ _ => (pv 2)))))))), run_body (ρ := [some d, none, none]) hs hR hK hX rfl ?_⟩
  rcases hk with ⟨p, rfl, hb, hk⟩ | ⟨pd, he⟩
  · refine ws_seq <| ws_drop <| we_callE <| wa_cons <| we_var rfl <| wa_nil ⟨_, rfl, .inl ⟨_, _, _, rfl, ?_⟩⟩
    refine ws_seq <| ws_set <| we_call <| wa_cons <| we_var rfl <| wa_nil ⟨p, rfl, hb.1.mono (by decide), hb.2.1.mono (by decide), hb.2.2.mono (by decide), ?_⟩
    refine ws_ret <| we_join <| we_str ⟨_, rfl, we_lc_strF (E1 := E0) <| we_str ⟨"enws", (fun c => decide (stF (mvS c p) < stF p)), D.str, rfl, by rw [chS_enws]; decide, fun c hc kb hkb => ?_, fun c hc _ k' hk' => we_var rfl hk', _, rfl, join_sz _, hk⟩⟩
    have hm := mv_bd (c := c) hb (by decide)
    exact wt_test <| we_op <| we_call <| wa_cons <| we_op <| we_var rfl <| we_call <| wa_cons <| we_var rfl <| wa_cons <| we_int <| wa_nil <| rp1 T ⟨c, rfl, hc, ro_own T ⟨_, _, _, _, _, _, rfl, cmw (hb.1.mono (by decide)) ((dir_bd1 (c := c)).2.mono (by decide)), wa_nil ⟨mvS c p, rfl, hm.1.mono (by decide), hm.2.1.mono (by decide), hm.2.2.mono (by decide), we_var rfl <| ro_b0 ⟨_, rfl, hkb⟩⟩⟩⟩
  · exact ws_seq <| ws_drop <| we_callE <| wa_cons <| we_var rfl <| wa_nil ⟨_, rfl, .inr ⟨pd, he⟩⟩
def pr_first_letters (T : Tx K mg) : Pr := fun ds B k e => ∃ d, ds = [d] ∧ ((∃ p : T3, d = plT T p ∧ PlB p ∧ k (.str (Txt.join "" (frstS p))) B) ∨ (plainD d = true ∧ e T.C_BadPlace (some ((["value"] : List Str), [d])) B))
theorem okD_first_letters (T : Tx K mg) : FnOk P w K mg base (L2.CX P w) 8 T.a_first_letters T.d_first_letters P_first_letters (spD K (pr_first_letters T)) := by
  refine T.F_first_letters.okX sc_first_letters (spD_len fun ds B k e h => by obtain ⟨d, rfl, hk⟩ := h; rfl) (fun cdv A outer s H vs Q E hr h => ?_)
  have G_Place_invert : FnOk P w K mg base (L2.CX P w) 6 _ _ _ _ := okD_Place_invert T
  have G_Place_mul : FnOk P w K mg base (L2.CX P w) 6 _ _ _ _ := okD_Place_mul T
  have G_check_place : FnOk P w K mg base (L2.CX P w) _ _ _ _ _ := okD_check_place T
  have G_fewest_steps : FnOk P w K mg base (L2.CX P w) 2 _ _ _ _ := okD_fewest_steps T
  have G_run_place : FnOk P w K mg base (L2.CX P w) 6 _ _ _ _ := okD_run_place T
  obtain ⟨G, ds, B, k, e, hs, hR, ⟨d, rfl, hk⟩, hK, hX⟩ := h
  refine ⟨_, (pss_cons (ps_expr (pe_call G_check_place (hr.mono (by decide)) (by rfl) T.g_check_place T.F_check_place.kp T.b_check_place .nil (passE (E := E)) (pa_cons (pv 0) pa_nil)))
 (pss_cons (ps_set (i := 1) sc_first_letters.nd rfl (.inr rfl) (pe_call G_fewest_steps (hr.mono (by decide)) (by rfl) T.g_fewest_steps T.F_fewest_steps.kp T.b_fewest_steps .nil (passE (E := E)) (pa_cons (pv 0) pa_nil)))
 (pss_one (ps_ret (pe_join pe_str (pe_lc (tt := (tTest (tOp (rI0 fun i j => V.bl (decide (i < j))) (tCall (spD K (pr_fewest_steps T)) [] E0 (tCons (tOp (rOpO K T.C_Place .Mult (spD K (pr_Place_mul T)) E0) (tUn (rUnO T.C_Place (spD K (pr_Place_invert T)) E0) (tCall (spD K (pr_run_place T)) [] E0 (tCons (tVar 2) (tCons (tC (.int 1)) tNil)))) (tVar 0)) tNil)) (tVar 1)))) (te := (tVar 2)) (own := [("letter", 2)]) (g := gName 2) (by rfl) sc_first_letters.nd (pi_str (pe_glob (v := .str "enws") (by rfl) T.gc_LETTERS ⟨_, rfl⟩)) (blkOk_by (own := [("letter", 2)]) (N := N_first_letters) (sc := defScope s_first_letters) (by decide +kernel)) (fun _ _ _ _ _ => pg_name (i := 2) sc_first_letters.nd rfl (Or.inl rfl)) (fun _ _ _ _ _ => (pts_one (pt_cmpR op_lt (pe_call G_fewest_steps (hr.mono (by decide)) (by rfl) T.g_fewest_steps T.F_fewest_steps.kp T.b_fewest_steps .nil passL (pa_cons (pe_op (op_ownO T.O_Place_Mult G_Place_mul (hr.mono (by decide)) T.b_Place_mul passL) (pe_un (un_invO T.m_Place_invert T.i_Place_invert G_Place_invert (hr.mono (by decide)) T.b_Place_invert passL) (pe_call G_run_place (hr.mono (by decide)) (by rfl) T.g_run_place T.F_run_place.kp T.b_run_place .nil passL (pa_cons (pv 2) (pa_cons pe_int pa_nil)))) (pv 0)) pa_nil)) (pv 1) (nomark _)))) (fun _ _ _ _ _ => (pv 2)))))))), run_body (ρ := [some d, none, none]) hs hR hK hX rfl ?_⟩
  rcases hk with ⟨p, rfl, hb, hk⟩ | ⟨pd, he⟩
  · refine ws_seq <| ws_drop <| we_callE <| wa_cons <| we_var rfl <| wa_nil ⟨_, rfl, .inl ⟨_, _, _, rfl, ?_⟩⟩
    refine ws_seq <| ws_set <| we_call <| wa_cons <| we_var rfl <| wa_nil ⟨p, rfl, hb.1.mono (by decide), hb.2.1.mono (by decide), hb.2.2.mono (by decide), ?_⟩
    refine ws_ret <| we_join <| we_str ⟨_, rfl, we_lc_strF (E1 := E0) <| we_str ⟨"enws", (fun c => decide (stF (bkS c p) < stF p)), D.str, rfl, by rw [chS_enws]; decide, fun c hc kb hkb => ?_, fun c hc _ k' hk' => we_var rfl hk', _, rfl, join_sz _, hk⟩⟩
    have hm := bk_bd (c := c) hb (by decide)
    exact wt_test <| we_op <| we_call <| wa_cons <| we_op <| we_inv T <| we_call <| wa_cons <| we_var rfl <| wa_cons <| we_int <| wa_nil <| rp1 T ⟨c, rfl, hc, _, _, _, rfl, _, _, _, rfl, cmw ((dir_bd1 (c := c)).1.mono (by decide)) ((dir_bd1 (c := c)).2.mono (by decide)), we_var rfl <| ro_own T ⟨_, _, _, _, _, _, rfl, cmw ((dir_bd1 (c := c)).1.neg.mono (by decide)) (hb.2.1.mono (by decide)), wa_nil ⟨bkS c p, rfl, hm.1.mono (by decide), hm.2.1.mono (by decide), hm.2.2.mono (by decide), we_var rfl <| ro_b0 ⟨_, rfl, hkb⟩⟩⟩⟩
  · exact ws_seq <| ws_drop <| we_callE <| wa_cons <| we_var rfl <| wa_nil ⟨_, rfl, .inr ⟨pd, he⟩⟩
def pr_is_summit (T : Tx K mg) : Pr := fun ds B k e => ∃ d, ds = [d] ∧ ((∃ p : T3, d = plT T p ∧ PlB p ∧ k (.bl (decide (Txt.join "" (nearS p) = "enws"))) B) ∨ (plainD d = true ∧ e T.C_BadPlace (some ((["value"] : List Str), [d])) B))
theorem okD_is_summit (T : Tx K mg) : FnOk P w K mg base (L2.CX P w) 9 T.a_is_summit T.d_is_summit P_is_summit (spD K (pr_is_summit T)) := by
  refine T.F_is_summit.okX sc_is_summit (spD_len fun ds B k e h => by obtain ⟨d, rfl, hk⟩ := h; rfl) (fun cdv A outer s H vs Q E hr h => ?_)
  have G_nearer : FnOk P w K mg base (L2.CX P w) 8 _ _ _ _ := okD_nearer T
  obtain ⟨G, ds, B, k, e, hs, hR, ⟨d, rfl, hk⟩, hK, hX⟩ := h
  refine ⟨_, (pss_one (ps_ret (pe_cmpR op_eq (pe_call G_nearer (hr.mono (by decide)) (by rfl) T.g_nearer T.F_nearer.kp T.b_nearer .nil (passE (E := E)) (pa_cons (pv 0) pa_nil)) (pe_glob (v := .str "enws") (by rfl) T.gc_LETTERS ⟨_, rfl⟩) (nomark _)))), run_body (ρ := [some d]) hs hR hK hX rfl ?_⟩
  rcases hk with ⟨p, rfl, hb, hk⟩ | ⟨pd, he⟩
  · exact ws_ret <| we_op <| we_callE <| wa_cons <| we_var rfl <| wa_nil ⟨_, rfl, .inl ⟨p, rfl, hb, we_str <| ro_eqS hk⟩⟩
  · exact ws_ret <| we_op <| we_callE <| wa_cons <| we_var rfl <| wa_nil ⟨_, rfl, .inr ⟨pd, he⟩⟩
end
end AW

set_option linter.all false
set_option maxRecDepth 100000
set_option maxHeartbeats 8000000
namespace AW
open PySem PySem.Spec PyProof.Rows L2 LamX Fewest
variable [Tbs]
section
variable {P : Program} {w : World} {K : PySem.W.Frag} {mg : Str → Option Value} {base : Heap} [CDict K w "DIRECTIONS" L_DIRECTIONS]
theorem Bd.le' {k : Nat} {i n : Int} (h : Bd k n) (h0 : 0 ≤ i) (h1 : i ≤ n) : Bd k i := by unfold Bd at *; omega
def bwF (p : T3) (n : Int) : List Rn := joinF (frameF p (bxW p n) (bxH p n))
theorem bwF_ok {p : T3} {n : Int} (hn : stF p ≤ n) (hp : (n - stF p) % 2 = 0) : GoodR (bwF p n) ∧ sumR (bwF p n) = n ∧ posF (bwF p n) = p ∧ (bwF p n).length ≤ 8 := by
  obtain ⟨_, _, _, _, _, _, h1, h2, h3, h4⟩ := built_ok hn hp
  refine ⟨joinF_good h1, (joinF_sum h1).trans h2, (joinF_pos h1).trans h3, ?_⟩
  have := joinF_len (frameF p (bxW p n) (bxH p n))
  unfold bwF
  omega
noncomputable def woF (T : Tx K mg) (p : T3) (n : Int) : D := if stF p ≤ n ∧ (n - stF p) % 2 = 0 then wkD T (bwF p n) else .non
def pr_walk_of (T : Tx K mg) : Pr := fun ds B k e => ∃ d1 d2, ds = [d1, d2] ∧ ((∃ (p : T3) (n : Int), d1 = plT T p ∧ d2 = .int n ∧ 0 ≤ n ∧ (Bd 2990 p.1 ∧ Bd 2990 p.2.1 ∧ Bd 2990 p.2.2) ∧ Bd 2990 n ∧ k (woF T p n) B) ∨
  (plainD d1 = true ∧ e T.C_BadPlace (some ((["value"] : List Str), [d1])) B) ∨ (∃ p : T3, d1 = plT T p ∧ plainD d2 = true ∧ badW d2 ∧ e T.C_BadNumber (some ((["value"] : List Str), [d2])) B))
theorem okD_walk_of (T : Tx K mg) : FnOk P w K mg base (L2.CX P w) 9 T.a_walk_of T.d_walk_of P_walk_of (spD K (pr_walk_of T)) := by
  refine T.F_walk_of.okX sc_walk_of (spD_len fun ds B k e h => by obtain ⟨d1, d2, rfl, hk⟩ := h; rfl) (fun cdv A outer s H vs Q E hr h => ?_)
  have G_areas_of_walks : FnOk P w K mg base (L2.CX P w) 2 _ _ _ _ := okD_areas_of_walks T
  have G_built_walk : FnOk P w K mg base (L2.CX P w) 8 _ _ _ _ := okD_built_walk T
  have G_check_place : FnOk P w K mg base (L2.CX P w) _ _ _ _ _ := okD_check_place T
  have G_check_whole : FnOk P w K mg base (L2.CX P w) 4 _ _ _ _ := okD_check_whole T
  obtain ⟨G, ds, B, k, e, hs, hR, ⟨d1, d2, rfl, hk⟩, hK, hX⟩ := h
  refine ⟨_, (pss_cons (ps_expr (pe_call G_check_place (hr.mono (by decide)) (by rfl) T.g_check_place T.F_check_place.kp T.b_check_place .nil (passE (E := E)) (pa_cons (pv 0) pa_nil)))
 (pss_cons (ps_expr (pe_call G_check_whole (hr.mono (by decide)) (by rfl) T.g_check_whole T.F_check_whole.kp T.b_check_whole .nil (passE (E := E)) (pa_cons (pv 1) pa_nil)))
 (pss_cons (ps_set (i := 2) sc_walk_of.nd rfl (.inl rfl) (pe_call G_areas_of_walks (hr.mono (by decide)) (by rfl) T.g_areas_of_walks T.F_areas_of_walks.kp T.b_areas_of_walks .nil (passE (E := E)) (pa_cons (pe_fld (pv 0) rfl) (pa_cons (pe_fld (pv 0) rfl) (pa_cons (pv 1) pa_nil)))))
 (pss_cons (ps_if (PW.pt (pw_or (pt_cmp (pc_isN (pv 2))) (pw_or1 (pt_not (pt_chain op_le op_le (pe_ix ix_tup (pv 2) pe_int (fun _ _ => rfl)) (pe_fld (pv 0) rfl) (pe_ix ix_tup (pv 2) pe_int (fun _ _ => rfl)))))))
 (pss_one (ps_ret pe_non))
 pss_nil)
 (pss_one (ps_ret (pe_call G_built_walk (hr.mono (by decide)) (by rfl) T.g_built_walk T.F_built_walk.kp T.b_built_walk .nil (passE (E := E)) (pa_cons (pv 0) (pa_cons (pv 1) pa_nil))))))))), run_body (ρ := [some d1, some d2, none]) hs hR hK hX rfl ?_⟩
  rcases hk with ⟨p, n, rfl, rfl, n0, hb, bn, hk⟩ | ⟨pd, he⟩ | ⟨p, rfl, pd, bw, he⟩
  · refine ws_seq <| ws_drop <| we_callE <| wa_cons <| we_var rfl <| wa_nil ⟨_, rfl, .inl ⟨_, _, _, rfl, ?_⟩⟩
    refine ws_seq <| ws_drop <| we_callE <| wa_cons <| we_var rfl <| wa_nil ⟨_, rfl, .inl ⟨n, rfl, n0, ?_⟩⟩
    refine ws_seq <| ws_set <| we_call <| wa_cons <| we_fx T <| we_var rfl ⟨_, _, _, rfl, wa_cons <| we_fy T <| we_var rfl ⟨_, _, _, rfl, wa_cons <| we_var rfl <| wa_nil ⟨p.1, p.2.1, n, rfl, hb.1.mono (by decide), hb.2.1.mono (by decide), bn.mono (by decide), ?_⟩⟩⟩
    cases e : areaF p.1 p.2.1 n with
    | none =>
      have hn := areaF_none e p.2.2
      have hk : k .non B := by unfold woF at hk; rw [if_neg hn] at hk; exact hk
      exact ws_seq <| ws_if <| wt_or <| wt_val <| we_isN <| we_var rfl ⟨_, rfl, fun _ => ⟨fun _ => ws_ret <| we_non hk, fun h => nomatch h⟩, fun h => nomatch h⟩
    | some lh =>
      obtain ⟨lo, hi⟩ := lh
      obtain ⟨h1, h2, h3⟩ := areaF_some e
      have h1 := h1 p.2.2
      refine ws_seq <| ws_if <| wt_or <| wt_val <| we_isN <| we_var rfl ⟨_, rfl, (fun h => nomatch h), fun _ => ?_⟩
      refine wt_not <| wt_test <| we_chain <| we_op <| we_var rfl <| we_int <| ro_ixT rfl <| we_fa T <| we_var rfl ⟨_, _, _, rfl, ro_b0 ⟨_, rfl, fun c1 => ?_, fun c1 => ?_⟩⟩
      · refine we_op <| we_var rfl <| we_int <| ro_ixT rfl <| ro_b0 ⟨_, rfl, fun c2 => ?_, fun c2 => ?_⟩
        · have hn : ¬ (stF p ≤ n ∧ (n - stF p) % 2 = 0) := fun hh => by
            have := (h1.mpr hh).2
            simp only [Bool.not_eq_true', decide_eq_false_iff_not] at c2
            omega
          have hk : k .non B := by unfold woF at hk; rw [if_neg hn] at hk; exact hk
          exact ws_ret <| we_non hk
        · have c1 := of_decide_eq_true c1
          simp only [Bool.not_eq_false', decide_eq_true_eq] at c2
          have hh := h1.mp ⟨c1, c2⟩
          have hk : k (wkD T (bwF p n)) B := by unfold woF at hk; rw [if_pos hh] at hk; exact hk
          obtain ⟨l1, l2, l3, l4, l5, l6, l7, l8, l9, l10⟩ := built_ok (p := p) hh.1 hh.2
          exact ws_next <| ws_ret <| we_call <| wa_cons <| we_var rfl <| wa_cons <| we_var rfl <| wa_nil ⟨p, n, rfl, l1, l2, hb.1.mono (by decide), hb.2.1.mono (by decide), (bn.le' l3 l4).mono (by decide), (bn.le' l5 l6).mono (by decide), ⟨by omega, l7⟩, hk⟩
      · have hn : ¬ (stF p ≤ n ∧ (n - stF p) % 2 = 0) := fun hh => absurd (h1.mpr hh).1 (of_decide_eq_false c1)
        have hk : k .non B := by unfold woF at hk; rw [if_neg hn] at hk; exact hk
        exact ⟨_, rfl, fun _ => ws_ret <| we_non hk, fun h => nomatch h⟩
  · exact ws_seq <| ws_drop <| we_callE <| wa_cons <| we_var rfl <| wa_nil ⟨_, rfl, .inr ⟨pd, he⟩⟩
  · refine ws_seq <| ws_drop <| we_callE <| wa_cons <| we_var rfl <| wa_nil ⟨_, rfl, .inl ⟨_, _, _, rfl, ?_⟩⟩
    exact ws_seq <| ws_drop <| we_callE <| wa_cons <| we_var rfl <| wa_nil ⟨_, rfl, .inr ⟨pd, bw, he⟩⟩
end
end AW

set_option linter.all false
set_option maxRecDepth 100000
set_option maxHeartbeats 8000000
namespace AW
open PySem PySem.Spec PyProof.Rows L2 LamX Fewest
variable [Tbs]
section
variable {P : Program} {w : World} {K : PySem.W.Frag} {mg : Str → Option Value} {base : Heap} [CDict K w "DIRECTIONS" L_DIRECTIONS]
abbrev penF : D := .pen "stop" "rest"
def pr_l_pen (T : Tx K mg) : Pr := fun ds B k e => ∃ ns : List Int, ds = [.scr ns] ∧ ns.length ≤ 63 ∧ 0 ≤ B ∧ k penF B
theorem okD_l_pen (T : Tx K mg) : FnOk P w K mg base (L2.CX P w) 1 T.a_l_pen T.d_l_pen P_l_pen (spD K (pr_l_pen T)) :=
  (ok_l_pen T).imp fun vs H Q E ⟨G, ds, B, k, e, hs, hr, ⟨ns, ed, hl, hB, h⟩, hk, hx⟩ => by
    subst ed
    obtain ⟨v, _, rfl, ⟨hT, a, rfl, hS⟩, rfl⟩ := hr
    refine ⟨a, ns, rfl, (Le.of_sub (B := B) (B' := B) hs (Int.le_refl _)).seqL hS, hl, fun p c H' ss np nc ne hp hc => ?_⟩
    have none_of : ∀ q, H q = none → G q = none := fun q z => by
      cases w : G q with
      | none => rfl
      | some u => rw [hs _ _ w] at z; cases z
    have le : Le G B (upd (upd G p (.dK (penE "stop" "rest" c 0 0))) c (.lst (ns.map V.int))) B := Le.of_sub (fun b o z => by rw [upd_ne (ne_of_none z (none_of c nc)), upd_ne (ne_of_none z (none_of p np))]; exact z) (Int.le_refl _)
    refine hk penF _ B (upd (upd G p (.dK (penE "stop" "rest" c 0 0))) c (.lst (ns.map V.int))) H' h ⟨le, fun b o z => ?_, fun b o z n _ => ?_⟩ ⟨le.tb hT, p, c, ns, 0, 0, rfl, by rw [upd_ne ne.symm, upd_same], upd_same, ⟨hl, fun h _ => absurd h (by decide)⟩, Int.le_refl _, hB⟩
    · by_cases h1 : b = c
      · subst h1; rw [upd_same] at z; cases z; exact hc
      · rw [upd_ne h1] at z
        by_cases h2 : b = p
        · subst h2; rw [upd_same] at z; cases z; exact hp
        · rw [upd_ne h2] at z; exact ss _ _ (hs _ _ z)
    · exact ⟨ss _ _ z, by rw [upd_ne (ne_of_none z nc), upd_ne (ne_of_none z np)]; exact n⟩
def pr_l_draw (T : Tx K mg) : Pr := fun ds B k e => ∃ n : Int, ds = [penF, .int n] ∧ 0 < n ∧ n < 1073741824 ∧ B ≤ 1000000 ∧ ∀ d, 0 ≤ d → d < n → k (.int d) (B + 1)
theorem okD_l_draw (T : Tx K mg) : FnOk P w K mg base (L2.CX P w) 1 T.a_l_draw T.d_l_draw P_l_draw (spD K (pr_l_draw T)) :=
  (ok_l_draw T).imp fun vs H Q E ⟨G, ds, B, k, e, hs, hr, ⟨n, ed, n0, n1, hB, h⟩, hk, hx⟩ => by
    subst ed
    obtain ⟨v, _, rfl, ⟨_, p, c, ns, s, r, rfl, gp, gc, hl, s0, s1⟩, u, _, rfl, ru, rfl⟩ := hr
    rw [show u = _ from ru]
    refine ⟨p, n, B, rfl, n0, n1, ⟨c, ns, s, r, hs _ _ gp, hs _ _ gc, hl.1, s0, s1⟩, hB, fun d H' hd bt hp => ?_⟩
    obtain ⟨c1, ns1, s', r', e1, e2, l1, b0, b1⟩ := hp.at_
    obtain ⟨s2, r2, e3⟩ := bt.cl c s r (hs _ _ gp)
    rw [e1] at e3
    have ec : c1 = c := by
      injection e3 with e3
      injection e3 with e3
      exact penD_inj e3
    subst ec
    have npc : c1 ≠ p := ne_of gc gp (by intro z; cases z)
    have nop : ∀ b o, G b = some o → ¬ IsPen o → b ≠ p := fun b o z n q => by
      subst q
      rw [gp] at z
      cases z
      exact n (.inl ⟨_, _, _, _, _, rfl⟩)
    refine hk (.int d) _ (B + 1) (upd G p (.dK (penD c1 s' r'))) H' (h d hd.1 hd.2) ⟨⟨by omega, fun b o z n => by rw [upd_ne (nop b o z n)]; exact z, fun b k l q x y z => ?_, fun hT z hz => ?_⟩, fun b o z => ?_, fun b o z n _ => ?_⟩ rfl
    · by_cases hb : b = p
      · subst hb
        rw [gp] at z
        injection z with z
        injection z with z
        unfold penE at z
        injection z with z1 z2
        injection z2 with z2 z3
        injection z3 with z3 z4
        injection z1 with _ z1
        injection z1 with z1
        injection z2 with z2 z5
        injection z2 with z2
        injection z3 with z3 z6
        injection z3 with z3
        subst z1 z2 z3
        exact ⟨s', r', upd_same, fun _ _ => ⟨b0, b1⟩⟩
      · exact ⟨x, y, by rw [upd_ne hb]; exact z, fun a b => ⟨a, by omega⟩⟩
    · obtain ⟨ps, h1, h2, h3⟩ := hT z hz
      refine ⟨ps, by rw [upd_ne (ne_of h1 gp (by intro z; cases z))]; exact h1, h2, fun pos cv hc => ?_⟩
      obtain ⟨c2, k1, k2⟩ := h3 pos cv hc
      exact ⟨c2, k1, by rw [upd_ne (ne_of k2 gp (by intro z; cases z))]; exact k2⟩
    · by_cases hb : b = p
      · subst hb; rw [upd_same] at z; cases z; exact e1
      · rw [upd_ne hb] at z; exact bt.st b o hb (hs _ _ z)
    · have hb : b ≠ p := fun q => by rw [q, gp] at n; cases n
      exact ⟨bt.st b o hb z, by rw [upd_ne hb]; exact n⟩
def pr_l_pick (T : Tx K mg) : Pr := fun ds B k e => ∃ d, ds = [penF, d] ∧ ((∃ xs : List D, d = .lst xs ∧ 0 < xs.length ∧ xs.length ≤ 1000000 ∧ B ≤ 1000000 ∧ ∀ d, d ∈ xs → k d (B + 1)) ∨ (∃ x : Str, d = .str x ∧ 0 < x.length ∧ x.length ≤ 1000000 ∧ B ≤ 1000000 ∧ ∀ c, c ∈ chS x → k (.str c) (B + 1)))
theorem okD_l_pick (T : Tx K mg) : FnOk P w K mg base (L2.CX P w) 2 T.a_l_pick T.d_l_pick P_l_pick (spD K (pr_l_pick T)) := by
  refine T.F_l_pick.okX sc_l_pick (spD_len fun ds B k e h => by obtain ⟨d, rfl, hk⟩ := h; rfl) (fun cdv A outer s H vs Q E hr h => ?_)
  have G_l_draw : FnOk P w K mg base (L2.CX P w) 1 _ _ _ _ := okD_l_draw T
  obtain ⟨G, ds, B, k, e, hs, hR, ⟨d, rfl, hk⟩, hK, hX⟩ := h
  refine ⟨_, (pss_one (ps_ret (pe_or2 (pe_ix ix_list (pv 1) (pe_call G_l_draw (hr.mono (by decide)) (by rfl) T.g_l_draw T.F_l_draw.kp T.b_l_draw .nil passL (pa_cons (pv 0) (pa_cons (pe_callB call_len_seq (by rfl) T.n_len (by decide +kernel) (pa_cons (pv 1) pa_nil)) pa_nil))) (fun _ _ => rfl)) (pe_ix ix_str (pv 1) (pe_call G_l_draw (hr.mono (by decide)) (by rfl) T.g_l_draw T.F_l_draw.kp T.b_l_draw .nil passL (pa_cons (pv 0) (pa_cons (pe_callB call_len_str (by rfl) T.n_len (by decide +kernel) (pa_cons (pv 1) pa_nil)) pa_nil))) (fun _ _ => rfl))))), run_body (ρ := [some penF, some d]) hs hR hK hX rfl ?_⟩
  rcases hk with ⟨xs, rfl, h0, h1, hB, hk⟩ | ⟨x, rfl, h0, h1, hB, hk⟩
  · refine ws_ret <| we_orL <| we_op <| we_var rfl <| we_call <| wa_cons <| we_var rfl <| wa_cons <| we_lenL <| wa_cons <| we_var rfl <| wa_nil ⟨_, rfl, wa_nil ⟨_, rfl, by omega, by omega, hB, fun d d0 d1 => ?_⟩⟩
    obtain ⟨j, rfl⟩ := Int.eq_ofNat_of_zero_le d0
    have hj : j < xs.length := by omega
    exact ro_ixL (atI_nat (List.getElem?_eq_getElem hj)) (hk _ (List.getElem_mem hj))
  · have zS : 1000000 < sizeLine := by decide
    refine ws_ret <| we_orR <| we_op <| we_var rfl <| we_call <| wa_cons <| we_var rfl <| wa_cons <| we_lenStr <| wa_cons <| we_var rfl <| wa_nil ⟨_, rfl, by omega, wa_nil ⟨_, rfl, by omega, by omega, hB, fun d d0 d1 => ?_⟩⟩
    obtain ⟨j, rfl⟩ := Int.eq_ofNat_of_zero_le d0
    have hj : j < x.cps.toList.length := by
      have : x.cps.toList.length = x.length := by simp [Str.length]
      omega
    refine ro_ixS (by omega) (atI_nat (List.getElem?_eq_getElem hj)) (hk _ ?_)
    unfold chS
    exact List.mem_map_of_mem (List.getElem_mem hj)
def pr_l_big (T : Tx K mg) : Pr := fun ds B k e => ∃ s : Int, ds = [penF, .int s] ∧ 0 < s ∧ Bd 1000 s ∧ B ≤ 900000 ∧ ∀ d B', 0 ≤ d → d < s → B' ≤ B + 24 → k (.int d) B'
theorem okD_l_big (T : Tx K mg) : FnOk P w K mg base (L2.CX P w) 2 T.a_l_big T.d_l_big P_l_big (spD K (pr_l_big T)) := by
  refine T.F_l_big.okX sc_l_big (spD_len fun ds B k e h => by obtain ⟨s, rfl, s0, bs, hB, hk⟩ := h; rfl) (fun cdv A outer s H vs Q E hr h => ?_)
  have G_l_draw : FnOk P w K mg base (L2.CX P w) 1 _ _ _ _ := okD_l_draw T
  obtain ⟨G, ds, B, k, e, hs, hR, ⟨s, rfl, s0, bs, hB, hk⟩, hK, hX⟩ := h
  refine ⟨_, (pss_cons (ps_if (pt_cmpR op_lt (pv 1) (pe_op op_pow pe_int pe_int) (nomark _))
 (pss_one (ps_ret (pe_call G_l_draw (hr.mono (by decide)) (by rfl) T.g_l_draw T.F_l_draw.kp T.b_l_draw .nil passL (pa_cons (pv 0) (pa_cons (pv 1) pa_nil)))))
 pss_nil)
 (pss_cons (ps_set (i := 2) sc_l_big.nd rfl (.inl rfl) pe_int)
 (pss_cons (ps_for (passes_of rfl) rfl (pi_range1 (by rfl) T.n_range (pa_cons pe_int pa_nil)) (pg_name (i := 3) sc_l_big.nd rfl (.inl rfl))
 (pss_cons (ps_set (i := 2) sc_l_big.nd rfl (.inl rfl) (pe_op op_add (pe_op op_mulW (pv 2) (pe_op op_pow pe_int pe_int)) (pe_call G_l_draw (hr.mono (by decide)) (by rfl) T.g_l_draw T.F_l_draw.kp T.b_l_draw .nil passL (pa_cons (pv 0) (pa_cons (pe_op op_pow pe_int pe_int) pa_nil)))))
 (pss_one (ps_if (pt_cmpR op_gt (pv 2) (pe_op op_mulW (pv 1) (pe_op op_pow pe_int pe_int)) (nomark _))
 (pss_one (ps_ret (pe_op op_modN (pv 2) (pv 1))))
 pss_nil))))
 (pss_one (ps_ret (pe_op op_modN (pv 2) (pv 1))))))), run_body (ρ := [some penF, some (.int s), none, none]) hs hR hK hX rfl ?_⟩
  have e7 : (10 : Int) ^ (7 : Int).toNat = 10000000 := by decide
  have e5 : (10 : Int) ^ (5 : Int).toNat = 100000 := by decide
  have c7 : CPow 10 7 := ⟨by decide, by decide, by decide⟩
  have c5 : CPow 10 5 := ⟨by decide, by decide, by decide⟩
  have b5 : Bd 8000 (100000 : Int) := Nat.lt_of_lt_of_le (by decide : _ < 2 ^ 64) (Nat.pow_le_pow_right (by decide) (by decide))
  have b5' : Bd 17 (100000 : Int) := by unfold Bd; decide
  refine ws_seq <| ws_if <| wt_test <| we_op <| we_var rfl <| we_op <| we_int <| we_int <| ro_i c7 ?_
  rw [e7]
  refine ro_b0 ⟨_, rfl, fun h => ?_, fun h => ws_next ?_⟩
  · have h := of_decide_eq_true h
    exact ws_ret <| we_call <| wa_cons <| we_var rfl <| wa_cons <| we_var rfl <| wa_nil ⟨s, rfl, s0, by omega, by omega, fun d d0 d1 => hk d _ d0 d1 (by omega)⟩
  have fm : ∀ f : Int, Bd 7000 f → ∀ {B0 : Int} {κ0 : KS}, (∀ d, 0 ≤ d → d < s → κ0.rt (.int d) B0) → ∀ {o : Option D}, Ws K E e (tRet (tOp (rI (fun x j => j ≠ 0) fun i j => V.int (i.fmod j)) (tVar 2) (tVar 1))) [some penF, some (.int s), some (.int f), o] B0 κ0 := fun f bf B0 κ0 h o => ws_ret <| we_op <| we_var rfl <| we_var rfl <| ro_i (show s ≠ 0 by omega) (h _ (fmod_in s0).1 (fmod_in s0).2)
  refine ws_seq <| ws_set <| we_int ?_
  refine ws_cut (fun ρ' B' => (∃ (f : Int) (o : Option D), ρ' = [some penF, some (.int s), some (.int f), o] ∧ Bd 7000 f) ∧ B' ≤ B + 24) ?_ ?_
  · refine ws_for_range1 <| wa_cons <| we_int <| wa_nil ⟨_, rfl, by decide, by decide, fun i ρ' B' => (∃ (f : Int) (o : Option D), ρ' = [some penF, some (.int s), some (.int f), o] ∧ 0 ≤ f ∧ (f = 0 ∨ f ≤ s * 100000)) ∧ B' ≤ B + (i : Int), ⟨⟨0, none, rfl, by omega, .inl rfl⟩, by omega⟩, fun i ρ' B' hi hI => ?_, fun ρ' B' hI => ?_⟩
    · obtain ⟨⟨f, o, rfl, f0, fs⟩, hB'⟩ := hI
      have hi : i < 24 := hi
      have bf : Bd 1020 f := by
        have := (Bd.mul bs b5').mono (show _ ≤ 1020 by decide)
        rcases fs with rfl | fs
        · exact Nat.pos_of_ne_zero (by have := Nat.one_le_two_pow (n := 1020); omega)
        · unfold Bd at *; omega
      refine wg_name ?_
      refine ws_seq <| ws_set <| we_op <| we_op <| we_var rfl <| we_op <| we_int <| we_int <| ro_i c5 ?_
      rw [e5]
      refine ro_i (cmw (bf.mono (by decide)) b5) <| we_call <| wa_cons <| we_var rfl <| wa_cons <| we_op <| we_int <| we_int <| ro_i c5 ?_
      rw [e5]
      refine wa_nil ⟨_, rfl, by decide, by decide, by omega, fun d d0 d1 => ro_i0 ?_⟩
      refine ws_if <| wt_test <| we_op <| we_var rfl <| we_op <| we_var rfl <| we_op <| we_int <| we_int <| ro_i c5 ?_
      rw [e5]
      refine ro_i (cmw (bs.mono (by decide)) b5) <| ro_b0 ⟨_, rfl, fun h => ?_, fun h => ws_next ?_⟩
      · exact ws_ret <| we_op <| we_var rfl <| we_var rfl <| ro_i (show s ≠ 0 by omega) (hk _ _ (fmod_in s0).1 (fmod_in s0).2 (by omega))
      · have h := of_decide_eq_false h
        exact ⟨⟨_, _, rfl, by omega, .inr (by omega)⟩, by push_cast; omega⟩
    · obtain ⟨⟨f, o, rfl, f0, fs⟩, hB'⟩ := hI
      have hB' : B' ≤ B + ((24 : Nat) : Int) := hB'
      refine ⟨⟨f, o, rfl, ?_⟩, by omega⟩
      have := (Bd.mul bs b5').mono (show _ ≤ 7000 by decide)
      rcases fs with rfl | fs
      · exact Nat.pos_of_ne_zero (by have := Nat.one_le_two_pow (n := 7000); omega)
      · unfold Bd at *; omega
  rintro _ B2 ⟨⟨f, o, rfl, bf⟩, hB2⟩
  exact ws_ret <| we_op <| we_var rfl <| we_var rfl <| ro_i (show s ≠ 0 by omega) (hk _ _ (fmod_in s0).1 (fmod_in s0).2 hB2)
def pr_l_whole (T : Tx K mg) : Pr := fun ds B k e => ∃ s : Int, ds = [penF, .int s] ∧ 0 ≤ s ∧ Bd 990 s ∧ B ≤ 900000 ∧ ∀ d B', -s ≤ d → d ≤ s → B' ≤ B + 24 → k (.int d) B'
theorem okD_l_whole (T : Tx K mg) : FnOk P w K mg base (L2.CX P w) 3 T.a_l_whole T.d_l_whole P_l_whole (spD K (pr_l_whole T)) := by
  refine T.F_l_whole.okX sc_l_whole (spD_len fun ds B k e h => by obtain ⟨s, rfl, s0, bs, hB, hk⟩ := h; rfl) (fun cdv A outer s H vs Q E hr h => ?_)
  have G_l_big : FnOk P w K mg base (L2.CX P w) 2 _ _ _ _ := okD_l_big T
  obtain ⟨G, ds, B, k, e, hs, hR, ⟨s, rfl, s0, bs, hB, hk⟩, hK, hX⟩ := h
  refine ⟨_, (pss_one (ps_ret (pe_op op_sub (pe_call G_l_big (hr.mono (by decide)) (by rfl) T.g_l_big T.F_l_big.kp T.b_l_big .nil passL (pa_cons (pv 0) (pa_cons (pe_op op_add (pe_op op_mul pe_int (pv 1)) pe_int) pa_nil))) (pv 1)))), run_body (ρ := [some penF, some (.int s)]) hs hR hK hX rfl ?_⟩
  have b2 : Bd 8000 (2 : Int) := Nat.lt_of_lt_of_le (by decide : _ < 2 ^ 64) (Nat.pow_le_pow_right (by decide) (by decide))
  have bz : Bd 1000 (2 * s + 1) := by
    have : (2 : Nat) ^ 1000 = 2 ^ 990 * 1024 := by rw [show 1000 = 990 + 10 from rfl, Nat.pow_add]
    unfold Bd at *
    omega
  exact ws_ret <| we_op <| we_call <| wa_cons <| we_var rfl <| wa_cons <| we_op <| we_op <| we_int <| we_var rfl <| ro_i (show CMul 2 s from .inl ⟨by decide, by decide⟩) <| we_int <| ro_i0 <| wa_nil ⟨2 * s + 1, rfl, by omega, bz, hB, fun d B' d0 d1 hB' => we_var rfl <| ro_i0 <| hk _ B' (by omega) (by omega) hB'⟩
end
end AW

set_option linter.all false
set_option maxRecDepth 100000
set_option maxHeartbeats 2000000
namespace AW
/-- sides that hold the product -/
def Fr (a u P W H : Int) : Prop := a ≤ W ∧ u ≤ H ∧ P ≤ W * H
/-- a cheapest frame -/
structure CF (a u P w h W H : Int) : Prop where
  fr : Fr a u P W H
  le : ∀ W' H', Fr a u P W' H' → w * W + h * H ≤ w * W' + h * H'
def cu (n d : Int) : Int := -((-n).fdiv d)
theorem cu_ge {n d : Int} (hd : 0 < d) : n ≤ d * cu n d ∧ d * (cu n d - 1) < n := by
  unfold cu
  have h1 := Int.fmod_add_mul_fdiv (-n) d
  have h2 := Int.fmod_nonneg_of_pos (-n) hd
  have h3 := Int.fmod_lt_of_pos (-n) hd
  have e1 : d * -((-n).fdiv d) = -(d * (-n).fdiv d) := by grind
  have e2 : d * (-((-n).fdiv d) - 1) = -(d * (-n).fdiv d) - d := by grind
  rw [e1, e2]
  generalize d * (-n).fdiv d = q at h1 ⊢
  omega
theorem cu_le {n d k : Int} (hd : 0 < d) (h : n ≤ d * k) : cu n d ≤ k := by
  have := (cu_ge (n := n) hd).2
  have h2 : d * (cu n d - 1) < d * k := by omega
  have := Int.lt_of_mul_lt_mul_left h2 (by omega)
  omega
theorem CF.swap {a u P w h W H : Int} (c : CF u a P h w H W) : CF a u P w h W H := by
  obtain ⟨⟨f1, f2, f3⟩, l⟩ := c
  refine ⟨⟨f2, f1, by rw [Int.mul_comm]; exact f3⟩, fun W' H' ⟨g1, g2, g3⟩ => ?_⟩
  have := l H' W' ⟨g2, g1, by rw [Int.mul_comm]; exact g3⟩
  omega
theorem CF.scale {a u P w h W H g : Int} (hg : 0 < g) (c : CF a u P w h W H) : CF a u P (g * w) (g * h) W H := by
  refine ⟨c.fr, fun W' H' f => ?_⟩
  have := Int.mul_le_mul_of_nonneg_left (c.le W' H' f) (show 0 ≤ g by omega)
  grind
theorem CF.corner {a u P w h : Int} (hw : 0 ≤ w) (hh : 0 ≤ h) (hp : P ≤ a * u) : CF a u P w h a u :=
  ⟨⟨Int.le_refl _, Int.le_refl _, hp⟩, fun W' H' ⟨g1, g2, _⟩ => by
    have := Int.mul_le_mul_of_nonneg_left g1 hw
    have := Int.mul_le_mul_of_nonneg_left g2 hh
    omega⟩
/-- what a bargain is about -/
structure Bg (a u P w h : Int) : Prop where
  a0 : 0 ≤ a
  u0 : 0 ≤ u
  hp : a * u < P
  w0 : 0 < w
  h0 : 0 < h
theorem Bg.p0 {a u P w h : Int} (b : Bg a u P w h) : 0 < P := by
  have := Int.mul_nonneg b.a0 b.u0
  have := b.hp
  omega
theorem Fr.pos {a u P w h W H : Int} (b : Bg a u P w h) (f : Fr a u P W H) : 0 < W ∧ 0 < H := by
  obtain ⟨f1, f2, f3⟩ := f
  have p := b.p0
  have a0 := b.a0
  have u0 := b.u0
  constructor
  · refine Int.lt_of_not_ge fun z => ?_
    have : W = 0 := by omega
    subst this
    rw [Int.zero_mul] at f3
    omega
  · refine Int.lt_of_not_ge fun z => ?_
    have : H = 0 := by omega
    subst this
    rw [Int.mul_zero] at f3
    omega
def nar (a : Int) : Int := max a 1
def wid (a u P : Int) : Int := max (nar a) (cu P (max u 1))
/-- the least height at a width -/
def hgt (u P W : Int) : Int := max u (cu P W)
def cst (u P w h W : Int) : Int := w * W + h * hgt u P W
theorem hgt_fr {a u P W : Int} (ha : a ≤ W) (hW : 0 < W) : Fr a u P W (hgt u P W) := by
  refine ⟨ha, Int.le_max_left .., ?_⟩
  have h1 := (cu_ge (n := P) hW).1
  have h2 : W * cu P W ≤ W * hgt u P W := Int.mul_le_mul_of_nonneg_left (Int.le_max_right ..) (by omega)
  omega
theorem cst_le {a u P w h W H : Int} (b : Bg a u P w h) (f : Fr a u P W H) : cst u P w h W ≤ w * W + h * H := by
  have hW := (f.pos b).1
  have h1 : hgt u P W ≤ H := Int.max_le.mpr ⟨f.2.1, cu_le hW f.2.2⟩
  have := Int.mul_le_mul_of_nonneg_left h1 (show 0 ≤ h from Int.le_of_lt b.h0)
  unfold cst
  omega
/-- frames wider than the widest are dearer -/
theorem cst_wid {a u P w h W H : Int} (b : Bg a u P w h) (f : Fr a u P W H) (hW : wid a u P < W) : cst u P w h (wid a u P) ≤ w * W + h * H := by
  obtain ⟨W0, H0⟩ := f.pos b
  have m0 : 0 < max u 1 := by omega
  have hH : max u 1 ≤ H := Int.max_le.mpr ⟨f.2.1, by omega⟩
  have hn : 1 ≤ wid a u P := by unfold wid nar; omega
  have h1 : hgt u P (wid a u P) ≤ max u 1 := by
    refine Int.max_le.mpr ⟨Int.le_max_left .., cu_le (by omega) ?_⟩
    have h2 := (cu_ge (n := P) m0).1
    have h3 : max u 1 * cu P (max u 1) ≤ max u 1 * wid a u P := Int.mul_le_mul_of_nonneg_left (Int.le_max_right ..) (by omega)
    rw [Int.mul_comm (wid a u P)]
    omega
  have h4 := Int.mul_le_mul_of_nonneg_left (Int.le_trans h1 hH) (show 0 ≤ h from Int.le_of_lt b.h0)
  have h5 := Int.mul_le_mul_of_nonneg_left (show wid a u P ≤ W by omega) (show 0 ≤ w from Int.le_of_lt b.w0)
  unfold cst
  omega
theorem cst_mul {u P w h W : Int} (hh : 0 ≤ h) (hW : 0 < W) : w * W * W + h * P ≤ cst u P w h W * W := by
  unfold cst
  have h1 := (cu_ge (n := P) hW).1
  have h2 : W * cu P W ≤ W * hgt u P W := Int.mul_le_mul_of_nonneg_left (Int.le_max_right ..) (by omega)
  have h3 : h * P ≤ h * (W * hgt u P W) := Int.mul_le_mul_of_nonneg_left (by omega) hh
  have e : (w * W + h * hgt u P W) * W = w * W * W + h * (W * hgt u P W) := by grind
  rw [e]; omega
/-- no cheaper one above -/
theorem stop_up {u P w h c W W' : Int} (hh : 0 ≤ h) (hw : 0 ≤ w) (hW : 0 < W) (hl : W ≤ W') (hs : h * P ≤ w * W * W) (hc : c * W ≤ w * W * W + h * P) : c ≤ cst u P w h W' := by
  have h1 := cst_mul (u := u) (P := P) (w := w) (W := W') hh (by omega)
  have h2 : 0 ≤ (W' - W) * (w * W * W' - h * P) := by
    refine Int.mul_nonneg (by omega) ?_
    have : w * W * W ≤ w * W * W' := Int.mul_le_mul_of_nonneg_left hl (Int.mul_nonneg hw (by omega))
    omega
  have h3 : W' * (c * W) ≤ W' * (w * W * W + h * P) := Int.mul_le_mul_of_nonneg_left hc (by omega)
  have h4 : W * (w * W' * W' + h * P) ≤ W * (cst u P w h W' * W') := Int.mul_le_mul_of_nonneg_left h1 (by omega)
  have e : (W' - W) * (w * W * W' - h * P) = W * (w * W' * W' + h * P) - W' * (w * W * W + h * P) := by grind
  have h5 : (W * W') * c ≤ (W * W') * cst u P w h W' := by
    have e1 : (W * W') * c = W' * (c * W) := by grind
    have e2 : (W * W') * cst u P w h W' = W * (cst u P w h W' * W') := by grind
    rw [e1, e2]; omega
  exact Int.le_of_mul_le_mul_left h5 (Int.mul_pos hW (by omega))
/-- no cheaper one below -/
theorem stop_down {u P w h c W W' : Int} (hh : 0 ≤ h) (hw : 0 ≤ w) (hW : 0 < W') (hl : W' ≤ W) (hs : w * W * W ≤ h * P) (hc : c * W ≤ w * W * W + h * P) : c ≤ cst u P w h W' := by
  have h1 := cst_mul (u := u) (P := P) (w := w) (W := W') hh hW
  have h2 : 0 ≤ (W - W') * (h * P - w * W * W') := by
    refine Int.mul_nonneg (by omega) ?_
    have : w * W * W' ≤ w * W * W := Int.mul_le_mul_of_nonneg_left hl (Int.mul_nonneg hw (by omega))
    omega
  have h3 : W' * (c * W) ≤ W' * (w * W * W + h * P) := Int.mul_le_mul_of_nonneg_left hc (by omega)
  have h4 : W * (w * W' * W' + h * P) ≤ W * (cst u P w h W' * W') := Int.mul_le_mul_of_nonneg_left h1 (by omega)
  have e : (W - W') * (h * P - w * W * W') = W * (w * W' * W' + h * P) - W' * (w * W * W + h * P) := by grind
  have h5 : (W * W') * c ≤ (W * W') * cst u P w h W' := by
    have e1 : (W * W') * c = W' * (c * W) := by grind
    have e2 : (W * W') * cst u P w h W' = W * (cst u P w h W' * W') := by grind
    rw [e1, e2]; omega
  exact Int.le_of_mul_le_mul_left h5 (Int.mul_pos (by omega) hW)
/-- the start: widths above it are above the best, those below it below -/
def stt (a u P w h r : Int) : Int := min (max r (nar a)) (wid a u P)
theorem stt_in {a u P w h r : Int} : nar a ≤ stt a u P w h r ∧ stt a u P w h r ≤ wid a u P := by
  unfold stt wid; omega
theorem stt_up {a u P w h r W : Int} (hw : 0 < w) (hr : 0 ≤ r) (hq : h * P < w * ((r + 1) * (r + 1))) (h1 : stt a u P w h r < W) (h2 : W ≤ wid a u P) : h * P ≤ w * W * W := by
  have : r + 1 ≤ W := by unfold stt at h1; omega
  have h3 : (r + 1) * (r + 1) ≤ W * W := Int.mul_le_mul this this (by omega) (by omega)
  have h4 := Int.mul_le_mul_of_nonneg_left h3 (show 0 ≤ w by omega)
  rw [Int.mul_assoc]; omega
theorem stt_down {a u P w h r W : Int} (hw : 0 < w) (hq : w * (r * r) ≤ h * P) (h0 : 0 < W) (h1 : W < stt a u P w h r) (h2 : nar a ≤ W) : w * W * W ≤ h * P := by
  have : W ≤ r := by unfold stt at h1; omega
  have h3 : W * W ≤ r * r := Int.mul_le_mul this this (by omega) (by omega)
  have h4 := Int.mul_le_mul_of_nonneg_left h3 (show 0 ≤ w by omega)
  rw [Int.mul_assoc]; omega
/-- all widths seen: a cheapest frame -/
theorem CF.all {a u P w h W H : Int} (b : Bg a u P w h) (f : Fr a u P W H) (hl : ∀ W', nar a ≤ W' → W' ≤ wid a u P → w * W + h * H ≤ cst u P w h W') : CF a u P w h W H := by
  refine ⟨f, fun W' H' f' => ?_⟩
  have hW := (f'.pos b).1
  have hn : nar a ≤ W' := by unfold nar; have := f'.1; omega
  by_cases z : W' ≤ wid a u P
  · exact Int.le_trans (hl W' hn z) (cst_le b f')
  · exact Int.le_trans (hl _ (by unfold wid; omega) (Int.le_refl _)) (cst_wid b f' (by omega))
theorem lc_side {a u P w h W H : Int} (b : Bg a u P w h) (f : Fr a u P W H) (hs : h * P ≤ w * a * a) : w * a + cu (h * P) a ≤ w * W + h * H := by
  have p := b.p0
  have hp : 0 < h * P := Int.mul_pos b.h0 p
  have a0 : 0 < a := by
    refine Int.lt_of_not_ge fun z => ?_
    have : a = 0 := by have := b.a0; omega
    subst this
    rw [Int.mul_zero] at hs
    omega
  have W0 := (f.pos b).1
  have c1 : w * W * W + h * P ≤ (w * W + h * H) * W := by
    have : h * P ≤ h * (W * H) := Int.mul_le_mul_of_nonneg_left f.2.2 (Int.le_of_lt b.h0)
    have e : (w * W + h * H) * W = w * W * W + h * (W * H) := by grind
    rw [e]; omega
  have h2 : 0 ≤ (W - a) * (w * a * W - h * P) := by
    refine Int.mul_nonneg (by have := f.1; omega) ?_
    have : w * a * a ≤ w * a * W := Int.mul_le_mul_of_nonneg_left f.1 (Int.mul_nonneg (Int.le_of_lt b.w0) (by omega))
    omega
  have h3 : a * (w * W * W + h * P) ≤ a * ((w * W + h * H) * W) := Int.mul_le_mul_of_nonneg_left c1 (by omega)
  have e : (W - a) * (w * a * W - h * P) = a * (w * W * W + h * P) - W * (w * a * a + h * P) := by grind
  have h4 : W * (w * a * a + h * P) ≤ W * (a * (w * W + h * H)) := by
    have e2 : W * (a * (w * W + h * H)) = a * ((w * W + h * H) * W) := by grind
    rw [e2]; omega
  have h5 := Int.le_of_mul_le_mul_left h4 W0
  have h6 : cu (h * P) a ≤ (w * W + h * H) - w * a := by
    refine cu_le a0 ?_
    have e3 : a * (w * W + h * H - w * a) = a * (w * W + h * H) - w * a * a := by grind
    rw [e3]; omega
  omega
theorem lc_mid {a u P w h W H r : Int} (b : Bg a u P w h) (f : Fr a u P W H) (hr0 : 0 ≤ r) (hr : r * r ≤ 4 * w * h * P - 1) : r + 1 ≤ w * W + h * H := by
  obtain ⟨W0, H0⟩ := f.pos b
  have x0 : 0 < w * W := Int.mul_pos b.w0 W0
  have y0 : 0 < h * H := Int.mul_pos b.h0 H0
  have h1 : 4 * w * h * P ≤ 4 * (w * W) * (h * H) := by
    have e : 4 * (w * W) * (h * H) = 4 * w * h * (W * H) := by grind
    rw [e]
    exact Int.mul_le_mul_of_nonneg_left f.2.2 (Int.mul_nonneg (Int.mul_nonneg (by decide) (Int.le_of_lt b.w0)) (Int.le_of_lt b.h0))
  have h2 : 4 * (w * W) * (h * H) ≤ (w * W + h * H) * (w * W + h * H) := by
    have e : (w * W + h * H) * (w * W + h * H) = 4 * (w * W) * (h * H) + (w * W - h * H) * (w * W - h * H) := by grind
    have : 0 ≤ (w * W - h * H) * (w * W - h * H) := by
      rcases Int.le_total 0 (w * W - h * H) with z | z
      · exact Int.mul_nonneg z z
      · exact Int.mul_nonneg_of_nonpos_of_nonpos z z
    omega
  refine Int.lt_of_not_ge fun z => ?_
  have : (w * W + h * H) * (w * W + h * H) ≤ r * r := Int.mul_le_mul z z (by omega) hr0
  omega
/-- the two widths that are looked at, of a cost -/
def pkF (a u w h C : Int) : Int := min (max (C.fdiv (2 * w)) a) ((C - h * u).fdiv w)
def blF (a u w h C s : Int) : Int := pkF a u w h C - (pkF a u w h C - s).fmod h
theorem fdiv_bd {n d : Int} (hd : 0 < d) : d * n.fdiv d ≤ n ∧ n < d * n.fdiv d + d := by
  have h1 := Int.fmod_add_mul_fdiv n d
  have h2 := Int.fmod_nonneg_of_pos n hd
  have h3 := Int.fmod_lt_of_pos n hd
  generalize d * n.fdiv d = q at h1 ⊢
  omega
theorem bl_mod {a u w h C s : Int} (hh : 0 < h) : h ∣ blF a u w h C s - s ∧ blF a u w h C s ≤ pkF a u w h C ∧ pkF a u w h C < blF a u w h C s + h := by
  unfold blF
  generalize pkF a u w h C = p
  have h1 := Int.fmod_add_mul_fdiv (p - s) h
  have h2 := Int.fmod_nonneg_of_pos (p - s) hh
  have h3 := Int.fmod_lt_of_pos (p - s) hh
  refine ⟨⟨(p - s).fdiv h, ?_⟩, by omega, by omega⟩
  omega
def GoodW (a u P w h C W : Int) : Prop := a ≤ W ∧ u ≤ (C - w * W).fdiv h ∧ P ≤ W * (C - w * W).fdiv h
theorem hh_of {w h C W s t : Int} (hh : 0 < h) (hb : w * s = C + h * t) (hm : h ∣ W - s) : ∃ H, C - w * W = h * H ∧ (C - w * W).fdiv h = H := by
  obtain ⟨k, hk⟩ := hm
  have e : C - w * W = h * (-t - w * k) := by
    have : W = s + h * k := by omega
    rw [this]; grind
  refine ⟨-t - w * k, e, ?_⟩
  rw [e, Int.mul_comm]
  exact Int.mul_fdiv_cancel _ (by omega)
theorem good_fr {a u P w h C W s t : Int} (hh : 0 < h) (hb : w * s = C + h * t) (hm : h ∣ W - s) (g : GoodW a u P w h C W) : Fr a u P W ((C - w * W).fdiv h) ∧ w * W + h * (C - w * W).fdiv h = C := by
  obtain ⟨H, e1, e2⟩ := hh_of hh hb hm
  refine ⟨g, ?_⟩
  rw [e2, ← e1]; omega
/-- where a frame has the cost, one of the two widths is good -/
theorem good_of {a u P w h C s t x y W H : Int} (b : Bg a u P w h) (hb : w * s = C + h * t) (hxy : w * x + h * y = 1) (f : Fr a u P W H) (hC : w * W + h * H = C) : GoodW a u P w h C (blF a u w h C s) ∨ GoodW a u P w h C (blF a u w h C s + h) := by
  obtain ⟨W0, H0⟩ := f.pos b
  have hh := b.h0
  have hw := b.w0
  obtain ⟨m1, m2, m3⟩ := bl_mod (a := a) (u := u) (w := w) (C := C) (s := s) hh
  have dv : h ∣ W - s := by
    refine ⟨(W - s) * y - x * (H + t), ?_⟩
    have e : w * (W - s) = -(h * (H + t)) := by grind
    have e2 : W - s = (w * x + h * y) * (W - s) := by rw [hxy, Int.one_mul]
    calc W - s = (w * x + h * y) * (W - s) := e2
      _ = x * (w * (W - s)) + h * y * (W - s) := by grind
      _ = x * (-(h * (H + t))) + h * y * (W - s) := by rw [e]
      _ = h * ((W - s) * y - x * (H + t)) := by grind
  generalize hB : blF a u w h C s = Bl at m1 m2 m3 ⊢
  obtain ⟨j, hj⟩ := dv
  obtain ⟨i, hi⟩ := m1
  have hWB : W - Bl = h * (j - i) := by grind
  have q1 := fdiv_bd (n := C) (d := 2 * w) (by omega)
  have q2 := fdiv_bd (n := C - h * u) (d := w) hw
  have hu : w * W ≤ C - h * u := by
    have := Int.mul_le_mul_of_nonneg_left f.2.1 (Int.le_of_lt hh)
    omega
  have hWle : W ≤ (C - h * u).fdiv w := by
    have : w * W < w * ((C - h * u).fdiv w + 1) := by
      have e : w * ((C - h * u).fdiv w + 1) = w * (C - h * u).fdiv w + w := by grind
      rw [e]; omega
    have := Int.lt_of_mul_lt_mul_left this (by omega)
    omega
  have prod : ∀ V K : Int, w * V + h * K = C → 0 ≤ (V - W) * (C - w * (V + W)) → P ≤ V * K := fun V K hV hz => by
    have e : h * (V * K) - h * (W * H) = (V - W) * (C - w * (V + W)) := by
      have e1 : h * K = C - w * V := by omega
      have e2 : h * H = C - w * W := by omega
      have e3 : h * (V * K) = V * (C - w * V) := by rw [← e1]; grind
      have e4 : h * (W * H) = W * (C - w * W) := by rw [← e2]; grind
      rw [e3, e4]; grind
    have : h * (W * H) ≤ h * (V * K) := by omega
    have := Int.le_of_mul_le_mul_left this hh
    have := f.2.2
    omega
  have hgt : ∀ V : Int, h ∣ V - s → ∃ K, w * V + h * K = C ∧ (C - w * V).fdiv h = K := fun V hV => by
    obtain ⟨K, e1, e2⟩ := hh_of hh hb hV
    exact ⟨K, by omega, e2⟩
  have hup : ∀ V K : Int, w * V + h * K = C → w * V ≤ C - h * u → u ≤ K := fun V K hV hl => by
    have : h * u ≤ h * K := by omega
    exact Int.le_of_mul_le_mul_left this hh
  by_cases c : j - i ≤ 0
  · -- the width is not above the lower one
    left
    have hl : W ≤ Bl := by
      have := Int.mul_le_mul_of_nonneg_left c (Int.le_of_lt hh)
      rw [Int.mul_zero] at this
      omega
    obtain ⟨K, k1, k2⟩ := hgt Bl ⟨i, hi⟩
    unfold GoodW
    rw [k2]
    have hpk : Bl ≤ (C - h * u).fdiv w := by unfold pkF at m2; omega
    have hBl : w * Bl ≤ C - h * u := by
      have := Int.mul_le_mul_of_nonneg_left hpk (Int.le_of_lt hw)
      omega
    refine ⟨by have := f.1; omega, hup Bl K k1 hBl, prod Bl K k1 ?_⟩
    by_cases z : W = Bl
    · rw [z, Int.sub_self, Int.zero_mul]; exact Int.le_refl _
    · refine Int.mul_nonneg (by omega) ?_
      have : Bl ≤ C.fdiv (2 * w) := by
        unfold pkF at m2
        have := f.1
        omega
      have h1 := Int.mul_le_mul_of_nonneg_left this (show 0 ≤ 2 * w by omega)
      have h2 := Int.mul_le_mul_of_nonneg_left hl (Int.le_of_lt hw)
      have e : w * (Bl + W) = w * Bl + w * W := by grind
      have e2 : 2 * w * Bl = w * Bl + w * Bl := by grind
      rw [e]
      omega
  · right
    have hl : Bl + h ≤ W := by
      have := Int.mul_le_mul_of_nonneg_left (show 1 ≤ j - i by omega) (Int.le_of_lt hh)
      rw [Int.mul_one] at this
      omega
    obtain ⟨K, k1, k2⟩ := hgt (Bl + h) ⟨i + 1, by rw [Int.mul_add]; omega⟩
    unfold GoodW
    rw [k2]
    have hpk : pkF a u w h C = max (C.fdiv (2 * w)) a := by unfold pkF at m3 ⊢; omega
    have hV : w * (Bl + h) ≤ C - h * u := by
      have := Int.mul_le_mul_of_nonneg_left hl (Int.le_of_lt hw)
      omega
    refine ⟨by omega, hup (Bl + h) K k1 hV, prod (Bl + h) K k1 ?_⟩
    refine Int.mul_nonneg_of_nonpos_of_nonpos (by omega) ?_
    have h1 : C.fdiv (2 * w) + 1 ≤ Bl + h := by omega
    have h3 := Int.mul_le_mul_of_nonneg_left h1 (Int.le_of_lt hw)
    have h4 := Int.mul_le_mul_of_nonneg_left (Int.le_trans h1 hl) (Int.le_of_lt hw)
    have e : w * (Bl + h + W) = w * (Bl + h) + w * W := by grind
    have e2 : 2 * w * C.fdiv (2 * w) + 2 * w = w * (C.fdiv (2 * w) + 1) + w * (C.fdiv (2 * w) + 1) := by grind
    rw [e]
    omega
end AW

set_option linter.all false
set_option maxRecDepth 100000
set_option maxHeartbeats 8000000
namespace AW
open PySem PySem.Spec PyProof.Rows L2 LamX Fewest
variable [Tbs]
section
variable {P : Program} {w : World} {K : PySem.W.Frag} {mg : Str → Option Value} {base : Heap}
abbrev trD (l : Bz.Tr) : D := t3 l.a l.b l.r
theorem wi_bd {k : Nat} {f s : Int} {l h : Bz.Tr} (I : Bz.WI f s l h) (hf : Bd k f) (hs : Bd k s) : Bd (k + 2) l.a ∧ Bd (k + 2) l.b ∧ Bd (k + 2) l.r ∧ Bd (k + 2) h.a ∧ Bd (k + 2) h.b ∧ Bd (k + 2) h.r := by
  have b := I.bd
  unfold Bd at *
  have e : (2 : Nat) ^ (k + 2) = 4 * 2 ^ k := by rw [Nat.pow_add] <;> omega
  rw [e]
  generalize (2 : Nat) ^ k = N at *
  omega
theorem lg8 {b : Int} (h : Bd 8002 b) : b.natAbs.log2 < 9000 := by have := PySem.W.mg_log (k := 8002) (Nat.lt_trans h (Nat.pow_lt_pow_right (by decide) (by decide))); omega
def subD (t : Int) : D → D → D
  | .int a, .int b => .int (a - t * b)
  | _, _ => .non
def pr_bezout (T : Tx K mg) : Pr := fun ds B k e => ∃ f s : Int, ds = [.int f, .int s] ∧ Bd 8000 f ∧ Bd 8000 s ∧ ∀ a b : Int, a * f + b * s = (Nat.gcd f.natAbs s.natAbs : Int) → (∀ m, Bd m f → Bd m s → Bd (m + 2) a ∧ Bd (m + 2) b) → k (t2 a b) B
theorem okD_bezout (T : Tx K mg) : FnOk P w K mg base (L2.CX P w) 1 T.a_bezout T.d_bezout P_bezout (spD K (pr_bezout T)) := by
  refine T.F_bezout.okX sc_bezout (spD_len fun ds B k e h => by obtain ⟨f, s1, rfl, hf, hs1, hk⟩ := h; rfl) (fun cdv A outer s H vs Q E hr h => ?_)
  obtain ⟨G, ds, B, k, e, hs, hR, ⟨f, s1, rfl, hf, hs1, hk⟩, hK, hX⟩ := h
  refine ⟨_, (pss_cons (ps_par (i := 2) (j := 3) (by rfl) sc_bezout.nd rfl rfl (by decide) rfl rfl (pa_cons (pe_tup (pa_cons pe_int (pa_cons pe_int (pa_cons (pv 0) pa_nil)))) (pa_cons (pe_tup (pa_cons pe_int (pa_cons pe_int (pa_cons (pv 1) pa_nil)))) pa_nil)) (by rfl))
 (pss_cons (ps_while (passes_of rfl) (pt_cmpR op_ne (pe_ix ix_tup (pv 3) pe_int (fun _ _ => rfl)) pe_int (nomark _))
 (pss_cons (ps_set (i := 4) sc_bezout.nd rfl (.inr rfl) (pe_op op_fdivG (pe_ix ix_tup (pv 2) pe_int (fun _ _ => rfl)) (pe_ix ix_tup (pv 3) pe_int (fun _ _ => rfl))))
 (pss_one (ps_par (i := 2) (j := 3) (by rfl) sc_bezout.nd rfl rfl (by decide) rfl rfl (pa_cons (pv 3) (pa_cons (pe_callTy call_tuple_of (by rfl) T.n_tuple (by decide +kernel) (pa_cons (pe_lc (te := (tOp (rI0 fun i j => V.int (i - j)) (tVar 5) (tOp (rI CMulW fun i j => V.int (i * j)) (tVar 4) (tVar 6)))) (own := [("one", 5), ("other", 6)]) (g := gTup K 2 (gCons (gName 5) (gCons (gName 6) gNil))) (by rfl) sc_bezout.nd (RZ.pi_zipA (by rfl) T.n_zip (pa_cons (pv 2) (pa_cons (pv 3) pa_nil))) (blkOk_by (own := [("one", 5), ("other", 6)]) (N := N_bezout) (sc := defScope s_bezout) (by decide +kernel)) (fun _ _ _ _ _ => pg_tup rfl (pgs_cons (pg_name (i := 5) sc_bezout.nd rfl (Or.inl rfl)) (pgs_cons (pg_name (i := 6) sc_bezout.nd rfl (Or.inl rfl)) pgs_nil))) (fun _ _ _ _ _ => pts_nil) (fun _ _ _ _ _ => (pe_op op_sub (pv 5) (pe_op op_mulW (pv 4) (pv 6))))) pa_nil)) pa_nil)) (by rfl)))))
 (pss_cons (ps_if (pt_cmpR op_lt (pe_ix ix_tup (pv 2) pe_int (fun _ _ => rfl)) pe_int (nomark _))
 (pss_one (ps_ret (pe_tup (pa_cons (pe_un un_neg (pe_ix ix_tup (pv 2) pe_int (fun _ _ => rfl))) (pa_cons (pe_un un_neg (pe_ix ix_tup (pv 2) pe_int (fun _ _ => rfl))) pa_nil)))))
 pss_nil)
 (pss_one (ps_ret (pe_tup (pa_cons (pe_ix ix_tup (pv 2) pe_int (fun _ _ => rfl)) (pa_cons (pe_ix ix_tup (pv 2) pe_int (fun _ _ => rfl)) pa_nil)))))))), run_body (ρ := [some (.int f), some (.int s1), none, none, none, none, none]) hs hR hK hX rfl ?_⟩
  refine ws_seq (ws_par (wa_cons (we_tup (wa_cons (we_int (wa_cons (we_int (wa_cons (we_var rfl (wa_nil ⟨Nat.le_of_ble_eq_true rfl, (wa_cons (we_tup (wa_cons (we_int (wa_cons (we_int (wa_cons (we_var rfl (wa_nil ⟨Nat.le_of_ble_eq_true rfl, (wa_nil ⟨_, _, rfl, ?_⟩)⟩)))))))))⟩))))))))))
  refine ws_cut (fun ρ' B' => (∃ l h o1, ρ' = [some (.int f), some (.int s1), some (trD l), some (trD h), o1, none, none] ∧ Bz.WI f s1 l h ∧ h.r = 0) ∧ B = B') ?_ ?_
  · refine ws_while (fun n ρ' B' => (∃ l h o1, ρ' = [some (.int f), some (.int s1), some (trD l), some (trD h), o1, none, none] ∧ Bz.WI f s1 l h ∧ h.r.natAbs = n) ∧ B = B') s1.natAbs ⟨⟨⟨1, 0, f⟩, ⟨0, 1, s1⟩, none, rfl, .inl ⟨rfl, rfl⟩, rfl⟩, rfl⟩ ?_
    rintro n ρ' B' ⟨⟨l, h, o1, rfl, I, hn⟩, rfl⟩
    obtain ⟨bla, blb, blr, bha, bhb, bhr⟩ := wi_bd I hf hs1
    refine wt_test (we_op (we_op (we_var rfl (we_int (ro_ixT rfl (we_int (ro_neI ⟨_, rfl, fun h1 => ?_, fun h1 => ?_⟩)))))))
    · have nz := ne_of_dec h1
      have bt : Bd 8002 (l.r.fdiv h.r) := blr.fdiv
      refine ws_seq (ws_set (we_op (we_op (we_var rfl (we_int (ro_ixT rfl (we_op (we_var rfl (we_int (ro_ixT rfl (ro_i ⟨nz, lg8 (bhr.mono (by decide))⟩ ?_)))))))))))
      refine ws_par <| wa_cons <| we_var rfl <| wa_cons <| we_tupleL <| wa_cons <| we_lc_zipT (E1 := E0) (by decide) <| wa_cons <| we_var rfl <| wa_cons <| we_var rfl <| wa_nil ⟨_, _, rfl, rfl, (by show 3 < sizeLine; decide), subD (l.r.fdiv h.r), fun n x y hx hy k' hk' => ?_, wa_nil ⟨_, rfl, wa_nil ⟨_, _, rfl, ?_⟩⟩⟩
      · rcases n with _ | _ | _ | n
        · cases hx; cases hy
          exact we_op (we_var rfl (we_op (we_var rfl (we_var rfl (ro_i (cmc (by apply Bd.mono; (repeat (first | assumption | exact Bd.lit 64 (by decide +kernel) | exact Bd.lit 2000 (by decide +kernel) | apply Bd.neg | apply Bd.fdiv | apply Bd.mul | apply Bd.add2 | apply Bd.sub2)); decide) (by apply Bd.mono; (repeat (first | assumption | exact Bd.lit 64 (by decide +kernel) | exact Bd.lit 2000 (by decide +kernel) | apply Bd.neg | apply Bd.fdiv | apply Bd.mul | apply Bd.add2 | apply Bd.sub2)); decide)) (ro_i0 hk'))))))
        · cases hx; cases hy
          exact we_op (we_var rfl (we_op (we_var rfl (we_var rfl (ro_i (cmc (by apply Bd.mono; (repeat (first | assumption | exact Bd.lit 64 (by decide +kernel) | exact Bd.lit 2000 (by decide +kernel) | apply Bd.neg | apply Bd.fdiv | apply Bd.mul | apply Bd.add2 | apply Bd.sub2)); decide) (by apply Bd.mono; (repeat (first | assumption | exact Bd.lit 64 (by decide +kernel) | exact Bd.lit 2000 (by decide +kernel) | apply Bd.neg | apply Bd.fdiv | apply Bd.mul | apply Bd.add2 | apply Bd.sub2)); decide)) (ro_i0 hk'))))))
        · cases hx; cases hy
          exact we_op (we_var rfl (we_op (we_var rfl (we_var rfl (ro_i (cmc (by apply Bd.mono; (repeat (first | assumption | exact Bd.lit 64 (by decide +kernel) | exact Bd.lit 2000 (by decide +kernel) | apply Bd.neg | apply Bd.fdiv | apply Bd.mul | apply Bd.add2 | apply Bd.sub2)); decide) (by apply Bd.mono; (repeat (first | assumption | exact Bd.lit 64 (by decide +kernel) | exact Bd.lit 2000 (by decide +kernel) | apply Bd.neg | apply Bd.fdiv | apply Bd.mul | apply Bd.add2 | apply Bd.sub2)); decide)) (ro_i0 hk'))))))
        · cases hx
      · have I2 := I.step nz
        exact ⟨_, by rw [← hn]; exact I2.lt, ⟨h, Bz.stp l h, _, rfl, .inr I2, rfl⟩, rfl⟩
    · exact ⟨⟨l, h, o1, rfl, I, eq_of_dec h1⟩, rfl⟩
  rintro _ _ ⟨⟨l, h, o1, rfl, I, hz⟩, rfl⟩
  obtain ⟨bla, blb, blr, bha, bhb, bhr⟩ := wi_bd I hf hs1
  obtain ⟨q1, q2⟩ := I.out hz
  refine ws_seq (ws_if (wt_test (we_op (we_op (we_var rfl (we_int (ro_ixT rfl (we_int (ro_b0 ⟨_, rfl, ⟨fun hc1 => ?_, fun hc2 => ?_⟩⟩)))))))))
  · refine (ws_ret (we_tup (wa_cons (we_neg (we_op (we_var rfl (we_int (ro_ixT rfl ⟨_, rfl, (wa_cons (we_neg (we_op (we_var rfl (we_int (ro_ixT rfl ⟨_, rfl, (wa_nil ⟨Nat.le_of_ble_eq_true rfl, ?_⟩)⟩))))))⟩))))))))
    exact hk _ _ (q1 (of_decide_eq_true hc1)) fun m u v => ⟨(wi_bd I u v).1.neg, (wi_bd I u v).2.1.neg⟩
  · refine ws_next ?_
    refine (ws_ret (we_tup (wa_cons (we_op (we_var rfl (we_int (ro_ixT rfl (wa_cons (we_op (we_var rfl (we_int (ro_ixT rfl (wa_nil ⟨Nat.le_of_ble_eq_true rfl, ?_⟩)))))))))))))
    exact hk _ _ (q2 (of_decide_eq_false hc2)) fun m u v => ⟨(wi_bd I u v).1, (wi_bd I u v).2.1⟩
def pr_quotient_up (T : Tx K mg) : Pr := fun ds B k e => ∃ a b : Int, ds = [.int a, .int b] ∧ 0 < b ∧ Bd 8000 b ∧ k (.int (cu a b)) B
theorem okD_quotient_up (T : Tx K mg) : FnOk P w K mg base (L2.CX P w) 1 T.a_quotient_up T.d_quotient_up P_quotient_up (spD K (pr_quotient_up T)) := by
  refine T.F_quotient_up.okX sc_quotient_up (spD_len fun ds B k e h => by obtain ⟨a, b, rfl, b0, hb, hk⟩ := h; rfl) (fun cdv A outer s H vs Q E hr h => ?_)
  obtain ⟨G, ds, B, k, e, hs, hR, ⟨a, b, rfl, b0, hb, hk⟩, hK, hX⟩ := h
  refine ⟨_, (pss_one (ps_ret (pe_un un_neg (pe_op op_fdivG (pe_un un_neg (pv 0)) (pv 1))))), run_body (ρ := [some (.int a), some (.int b)]) hs hR hK hX rfl ?_⟩
  exact ws_ret <| we_neg <| we_op <| we_neg <| we_var rfl ⟨_, rfl, we_var rfl <| ro_i ⟨by omega, lg hb⟩ ⟨_, rfl, hk⟩⟩
abbrev bgN : List Str := ["across", "up", "product", "wide", "high", "narrowest", "widest"]
abbrev bgF (a u p w h : Int) : List D := [.int a, .int u, .int p, .int w, .int h, .int (nar a), .int (wid a u p)]
abbrev bgD (T : Tx K mg) (a u p w h : Int) : D := .ins T.C_Bargain bgN (bgF a u p w h)
/-- the numbers' sizes -/
structure BgS (a u p w h : Int) : Prop where
  ba : Bd 400 a
  bu : Bd 400 u
  bp : Bd 400 p
  bw : Bd 20 w
  bh : Bd 20 h
theorem mx_max (a b : Int) : (if b > a then b else a) = max a b := by split <;> omega
theorem mn_min (a b : Int) : (if b < a then b else a) = min a b := by split <;> omega
def pr_Bargain_init (T : Tx K mg) : List D → Int → (List D → Int → Prop) → EW → Prop := fun ds B k e => ∃ a u p w h : Int, ds = [.int a, .int u, .int p, .int w, .int h] ∧ Bg a u p w h ∧ BgS a u p w h ∧ ∀ w' h' g : Int, 0 < g → w = g * w' → h = g * h' → Nat.gcd w'.natAbs h'.natAbs = 1 → Bg a u p w' h' → BgS a u p w' h' → k (bgF a u p w' h') B
theorem gcd_parts {w h : Int} (w0 : 0 < w) (h0 : 0 < h) : ∃ g w' h' : Int, (Nat.gcd w.natAbs h.natAbs : Int) = g ∧ 0 < g ∧ w.fdiv g = w' ∧ h.fdiv g = h' ∧ w = g * w' ∧ h = g * h' ∧ Nat.gcd w'.natAbs h'.natAbs = 1 ∧ 0 < w' ∧ 0 < h' ∧ w' ≤ w ∧ h' ≤ h ∧ g ≤ w := by
  obtain ⟨m, rfl⟩ : ∃ m : Nat, w = m := ⟨w.toNat, by omega⟩
  obtain ⟨n, rfl⟩ : ∃ n : Nat, h = n := ⟨h.toNat, by omega⟩
  rw [Int.natAbs_natCast, Int.natAbs_natCast]
  have g0 : 0 < Nat.gcd m n := Nat.gcd_pos_of_pos_left _ (by omega)
  have dm : Nat.gcd m n ∣ m := Nat.gcd_dvd_left ..
  have dn : Nat.gcd m n ∣ n := Nat.gcd_dvd_right ..
  have em := Nat.mul_div_cancel' dm
  have en := Nat.mul_div_cancel' dn
  have pm : 0 < m / Nat.gcd m n := Nat.div_pos (Nat.le_of_dvd (by omega) dm) g0
  have pn : 0 < n / Nat.gcd m n := Nat.div_pos (Nat.le_of_dvd (by omega) dn) g0
  refine ⟨(Nat.gcd m n : Nat), ((m / Nat.gcd m n : Nat) : Int), ((n / Nat.gcd m n : Nat) : Int), rfl, by omega, ?_, ?_, ?_, ?_, ?_, by omega, by omega, ?_, ?_, ?_⟩
  · rw [Int.fdiv_eq_ediv_of_nonneg _ (by omega)]; first | (push_cast; rfl) | push_cast
  · rw [Int.fdiv_eq_ediv_of_nonneg _ (by omega)]; first | (push_cast; rfl) | push_cast
  · rw [← Int.natCast_mul, em]
  · rw [← Int.natCast_mul, en]
  · rw [Int.natAbs_natCast, Int.natAbs_natCast, Nat.gcd_div dm dn, Nat.div_self g0]
  · have := Nat.div_le_self m (Nat.gcd m n); omega
  · have := Nat.div_le_self n (Nat.gcd m n); omega
  · have := Nat.le_of_dvd (by omega) dm; omega
theorem okD_Bargain_init (T : Tx K mg) : FnOk P w K mg base (L2.CX P w) 3 T.a_Bargain_init T.d_Bargain_init P_Bargain_init (spI K T.C_Bargain bgN (pr_Bargain_init T)) := by
  have G_quotient_up : FnOk P w K mg base (L2.CX P w) 1 _ _ _ _ := okD_quotient_up T
  refine T.F_Bargain_init.okX sc_Bargain_init (fun vs H Q E h => ?_) (fun cdv A outer s H vs Q E hr h => ?_)
  · obtain ⟨p, dx, ws, G, ds, B, k, e, rfl, hp, gp, gdx, ne, hd, hs, hR, ⟨a, u, p1, w1, h1, rfl, _⟩, hK, hX⟩ := h
    rw [List.length_cons, ← hR.length]
    rfl
  · obtain ⟨p, dx, ws, G, ds, B, k, e, rfl, hp, gp, gdx, ne, hd, hs, hR, ⟨a, u, p1, w1, h1, rfl, hb, hz, hk⟩, hK, hX⟩ := h
    have n1 : ∀ q ∈ ([("across" : Str)] : List Str), q ≠ ("up" : Str) := by decide +kernel
    have n2 : ∀ q ∈ ([("across" : Str), "up"] : List Str), q ≠ ("product" : Str) := by decide +kernel
    have n3 : ∀ q ∈ ([("across" : Str), "up", "product"] : List Str), q ≠ ("wide" : Str) := by decide +kernel
    have n4 : ∀ q ∈ ([("across" : Str), "up", "product", "wide"] : List Str), q ≠ ("high" : Str) := by decide +kernel
    have n5 : ∀ q ∈ ([("across" : Str), "up", "product", "wide", "high"] : List Str), q ≠ ("narrowest" : Str) := by decide +kernel
    have n6 : ∀ q ∈ ([("across" : Str), "up", "product", "wide", "high", "narrowest"] : List Str), q ≠ ("widest" : Str) := by decide +kernel
    obtain ⟨g, w2, h2, eg, g0, ew, eh, fw, fh, hg1, w20, h20, lw, lh, lgw⟩ := gcd_parts hb.w0 hb.h0
    have bg : Bd 20 g := by have := hz.bw; unfold Bd at *; omega
    have b2 : Bg a u p1 w2 h2 := ⟨hb.a0, hb.u0, hb.hp, w20, h20⟩
    have z2 : BgS a u p1 w2 h2 := ⟨hz.ba, hz.bu, hz.bp, by have := hz.bw; unfold Bd at *; omega, by have := hz.bh; unfold Bd at *; omega⟩
    have bmu : Bd 8000 (max u 1) := by
      have := hz.bu
      have h300 : (2 : Nat) ^ 400 ≤ 2 ^ 8000 := Nat.pow_le_pow_right (by decide) (by decide)
      have h1 : (1 : Nat) < 2 ^ 8000 := Nat.one_lt_two_pow (by decide)
      unfold Bd at *; omega
    refine ⟨_, (pss_cons (ps_set (i := 6) sc_Bargain_init.nd rfl (.inl rfl) (pe_callBfun cr_gcd (by rfl) T.mi_gcd (pa_cons (pv 4) (pa_cons (pv 5) pa_nil))))
 (pss_cons (ps_fld (pv 0) (pv 1) rfl)
 (pss_cons (ps_fld (pv 0) (pv 2) rfl)
 (pss_cons (ps_fld (pv 0) (pv 3) rfl)
 (pss_cons (ps_fld (pv 0) (pe_op op_fdivG (pv 4) (pv 6)) rfl)
 (pss_cons (ps_fld (pv 0) (pe_op op_fdivG (pv 5) (pv 6)) rfl)
 (pss_cons (ps_fld (pv 0) (pe_callB (call_max2 rfl) (by rfl) T.n_max (by decide +kernel) (pa_cons (pv 1) (pa_cons pe_int pa_nil))) rfl)
 (pss_one (ps_fld (pv 0) (pe_callB (call_max2 rfl) (by rfl) T.n_max (by decide +kernel) (pa_cons (pe_fld (pv 0) rfl) (pa_cons (pe_call G_quotient_up (hr.mono (by decide)) (by rfl) T.g_quotient_up T.F_quotient_up.kp T.b_quotient_up .nil passL (pa_cons (pv 3) (pa_cons (pe_callB (call_max2 rfl) (by rfl) T.n_max (by decide +kernel) (pa_cons (pv 2) (pa_cons pe_int pa_nil))) pa_nil))) pa_nil))) rfl))))))))), run_init (kf := fun fs O' B' => fs.map (·.1) = bgN ∧ k (fs.map (·.2)) B') hp gp hs hR rfl (fun fs us O' B' G' H' hf ex g2 h2 hr2 ow2 hpn => ?_) ?_⟩
    · obtain ⟨e1, hf⟩ := hf
      rw [e1] at h2
      refine hK _ us B' G' H' hf ex.le ex.sub (fun a o z n nb nt => ex.fr a o (by rw [hide1 nb]; exact z) n nt) g2 h2 ?_ hr2
      have h3 := hr2.length
      have h4 := congrArg List.length e1
      rw [List.length_map] at h3 h4
      show 7 = _
      exact h4.symm.trans h3
    · refine wx_seq <| wx_ws <| ws_set <| we_gcd <| wa_cons <| we_var rfl <| wa_cons <| we_var rfl <| wa_nil ⟨_, _, rfl, ?_⟩
      rw [eg]
      refine wx_seq <| wx_fldS (i := 0) (C := T.C_Bargain) (dx := dx) rfl <| wew_we <| we_var rfl ⟨0, [], rfl, T.cl_Bargain, T.na_Bargain_across, by decide, (fun q hq => nomatch hq), ?_⟩
      refine wx_seq <| wx_fldS (i := 0) (C := T.C_Bargain) (dx := dx) rfl <| wew_we <| we_var rfl ⟨0, _, rfl, T.cl_Bargain, T.na_Bargain_up, by simp, n1, ?_⟩
      refine wx_seq <| wx_fldS (i := 0) (C := T.C_Bargain) (dx := dx) rfl <| wew_we <| we_var rfl ⟨0, _, rfl, T.cl_Bargain, T.na_Bargain_product, by simp, n2, ?_⟩
      refine wx_seq <| wx_fldS (i := 0) (C := T.C_Bargain) (dx := dx) rfl <| wew_we <| we_op <| we_var rfl <| we_var rfl <| ro_i ⟨by omega, lg (bg.mono (by decide))⟩ ⟨0, _, rfl, T.cl_Bargain, T.na_Bargain_wide, by simp, n3, ?_⟩
      refine wx_seq <| wx_fldS (i := 0) (C := T.C_Bargain) (dx := dx) rfl <| wew_we <| we_op <| we_var rfl <| we_var rfl <| ro_i ⟨by omega, lg (bg.mono (by decide))⟩ ⟨0, _, rfl, T.cl_Bargain, T.na_Bargain_high, by simp, n4, ?_⟩
      rw [ew, eh]
      refine wx_seq <| wx_fldS (i := 0) (C := T.C_Bargain) (dx := dx) rfl <| wew_we <| we_max2 <| wa_cons <| we_var rfl <| wa_cons <| we_int <| wa_nil ⟨_, _, rfl, 0, _, rfl, T.cl_Bargain, T.na_Bargain_narrowest, by simp, n5, ?_⟩
      rw [mx_max]
      refine wx_fldS (i := 0) (C := T.C_Bargain) (dx := dx) rfl <| wew_max2 <| waw_cons <| wew_fldS (i := 0) (n := 0) rfl rfl T.cl_Bargain T.na_Bargain_narrowest rfl <| waw_cons <| wew_we <| we_call <| wa_cons <| we_var rfl <| wa_cons <| we_max2 <| wa_cons <| we_var rfl <| wa_cons <| we_int <| wa_nil ⟨_, _, rfl, wa_nil ⟨_, _, rfl, by split <;> omega, by rw [mx_max]; exact bmu, waw_nil ⟨_, _, rfl, 0, _, rfl, T.cl_Bargain, T.na_Bargain_widest, by simp, n6, 0, _, rfl, rfl, ?_⟩⟩⟩
      rw [mx_max, mx_max]
      exact hk w2 h2 g g0 fw fh hg1 b2 z2
end
end AW

set_option linter.all false
set_option maxRecDepth 100000
set_option maxHeartbeats 8000000
namespace AW
open PySem PySem.Spec PyProof.Rows L2 LamX Fewest
variable [Tbs]
section
variable {P : Program} {w : World} {K : PySem.W.Frag} {mg : Str → Option Value} {base : Heap}
theorem BgS.bn {a u p w h : Int} (z : BgS a u p w h) : Bd 400 (nar a) := by
  have h1 : (1 : Nat) < 2 ^ 400 := Nat.one_lt_two_pow (by decide)
  have := z.ba
  unfold nar; unfold Bd at *; omega
theorem wid_le {a u p w h : Int} (b : Bg a u p w h) : wid a u p ≤ max (nar a) p := by
  have p0 := b.p0
  unfold wid
  have : cu p (max u 1) ≤ p := by
    refine cu_le (by omega) ?_
    have := Int.mul_le_mul_of_nonneg_right (show 1 ≤ max u 1 by omega) (show 0 ≤ p by omega)
    omega
  omega
theorem BgS.bw2 {a u p w h W : Int} (b : Bg a u p w h) (z : BgS a u p w h) (h1 : 0 ≤ W) (h2 : W ≤ wid a u p) : Bd 400 W := by
  have := wid_le b
  have n := z.bn
  have p := z.bp
  unfold Bd at *
  omega
theorem BgS.bh2 {a u p w h W : Int} (b : Bg a u p w h) (z : BgS a u p w h) (h1 : 0 < W) : Bd 400 (hgt u p W) ∧ Bd 400 (cu p W) := by
  have c1 : cu p W ≤ p := by
    refine cu_le h1 ?_
    have := Int.mul_le_mul_of_nonneg_right (show 1 ≤ W by omega) (show 0 ≤ p by have := b.p0; omega)
    omega
  have c2 : 0 ≤ cu p W := by
    have := (cu_ge (n := p) h1).1
    have p0 := b.p0
    refine Int.le_of_not_gt fun q => ?_
    have : W * cu p W ≤ 0 := Int.mul_nonpos_of_nonneg_of_nonpos (by omega) (by omega)
    omega
  have u0 := b.u0
  have := z.bp
  have := z.bu
  unfold hgt
  unfold Bd at *
  omega
/-- the best of the widths from lo to hi -/
structure SeenW (a u p w h lo hi c W H : Int) : Prop where
  fr : Fr a u p W H
  co : c = w * W + h * H
  le : ∀ W', lo ≤ W' → W' ≤ hi → c ≤ cst u p w h W'
  bd : Bd 900 c
def BestW (a u p w h lo hi : Int) (d : D) : Prop := (hi < lo ∧ d = .non) ∨ (lo ≤ hi ∧ ∃ c W H, d = t3 c W H ∧ SeenW a u p w h lo hi c W H)
theorem lexB {a b c x y z : Int} (h : HT.lexLt [a, b, c] [x, y, z] = false) : x ≤ a := by
  simp [HT.lexLt] at h; split at h <;> omega
theorem seen_one {a u p w h V : Int} (b : Bg a u p w h) (z : BgS a u p w h) (h1 : nar a ≤ V) (h2 : V ≤ wid a u p) : SeenW a u p w h V V (w * V + h * hgt u p V) V (hgt u p V) := by
  have v0 : 0 < V := by unfold nar at h1; omega
  have va : a ≤ V := by unfold nar at h1; omega
  refine ⟨hgt_fr va v0, rfl, fun W' g1 g2 => ?_, ?_⟩
  · rw [show W' = V by omega]; exact Int.le_refl _
  · exact Bd.mono (((z.bw.mul (z.bw2 b (by omega) h2))).add2 (z.bh.mul (z.bh2 b v0).1)) (by decide)
theorem SeenW.of {a u p w h lo hi lo2 hi2 c W H : Int} (s : SeenW a u p w h lo hi c W H) (hl : ∀ W', lo2 ≤ W' → W' ≤ hi2 → ¬ (lo ≤ W' ∧ W' ≤ hi) → c ≤ cst u p w h W') : SeenW a u p w h lo2 hi2 c W H :=
  ⟨s.fr, s.co, fun W' g1 g2 => if x : lo ≤ W' ∧ W' ≤ hi then s.le W' x.1 x.2 else hl W' g1 g2 x, s.bd⟩
def pr_Bargain_may_be_cheaper (T : Tx K mg) : Pr := fun ds B k e => ∃ (a u p w h W : Int) (d : D), ds = [bgD T a u p w h, .int W, d] ∧ BgS a u p w h ∧ Bd 400 W ∧ ((d = .non ∧ k (.bl true) B) ∨ ∃ c x y : Int, d = t3 c x y ∧ Bd 900 c ∧ k (.bl (decide (w * W * W + h * p < c * W))) B)
theorem okD_Bargain_may_be_cheaper (T : Tx K mg) : FnOk P w K mg base (L2.CX P w) 1 T.a_Bargain_may_be_cheaper T.d_Bargain_may_be_cheaper P_Bargain_may_be_cheaper (spD K (pr_Bargain_may_be_cheaper T)) := by
  refine T.F_Bargain_may_be_cheaper.okX sc_Bargain_may_be_cheaper (spD_len fun ds B k e h => by obtain ⟨a, u, p, w1, h1, W, d, rfl, z, hW, hk⟩ := h; rfl) (fun cdv A outer s H vs Q E hr h => ?_)
  obtain ⟨G, ds, B, k, e, hs, hR, ⟨a, u, p, w1, h1, W, d, rfl, z, hW, hk⟩, hK, hX⟩ := h
  refine ⟨_, (pss_one (ps_ret (pe_or (pe_cmp (pc_isN (pv 2)) rfl) (pe_one (pe_cmpR op_lt (pe_op op_add (pe_op op_mulW (pe_op op_mulW (pe_fld (pv 0) rfl) (pv 1)) (pv 1)) (pe_op op_mulW (pe_fld (pv 0) rfl) (pe_fld (pv 0) rfl))) (pe_op op_mulW (pe_ix ix_tup (pv 2) pe_int (fun _ _ => rfl)) (pv 1)) (nomark _)))))), run_body (ρ := [some (bgD T a u p w1 h1), some (.int W), some d]) hs hR hK hX rfl ?_⟩
  rcases hk with ⟨rfl, hk⟩ | ⟨c, x, y, rfl, hc, hk⟩
  · exact ws_ret <| we_or <| we_isN <| we_var rfl ⟨_, rfl, (fun _ => hk), (fun h => nomatch h)⟩
  · have bw := z.bw
    have bh := z.bh
    have bp := z.bp
    refine (ws_ret (we_or (we_isN (we_var rfl ⟨_, rfl, fun hc1 => ?_, fun hc2 => (we_op (we_op (we_op (we_op (we_fld (we_var rfl ⟨_, _, _, _, rfl, T.cl_Bargain, T.na_Bargain_wide, rfl, (we_var rfl (ro_i (cmc (by apply Bd.mono; (repeat (first | assumption | exact Bd.lit 64 (by decide +kernel) | exact Bd.lit 2000 (by decide +kernel) | apply Bd.neg | apply Bd.fdiv | apply Bd.mul | apply Bd.add2 | apply Bd.sub2)); decide) (by apply Bd.mono; (repeat (first | assumption | exact Bd.lit 64 (by decide +kernel) | exact Bd.lit 2000 (by decide +kernel) | apply Bd.neg | apply Bd.fdiv | apply Bd.mul | apply Bd.add2 | apply Bd.sub2)); decide)) (we_var rfl (ro_i (cmc (by apply Bd.mono; (repeat (first | assumption | exact Bd.lit 64 (by decide +kernel) | exact Bd.lit 2000 (by decide +kernel) | apply Bd.neg | apply Bd.fdiv | apply Bd.mul | apply Bd.add2 | apply Bd.sub2)); decide) (by apply Bd.mono; (repeat (first | assumption | exact Bd.lit 64 (by decide +kernel) | exact Bd.lit 2000 (by decide +kernel) | apply Bd.neg | apply Bd.fdiv | apply Bd.mul | apply Bd.add2 | apply Bd.sub2)); decide)) (we_op (we_fld (we_var rfl ⟨_, _, _, _, rfl, T.cl_Bargain, T.na_Bargain_high, rfl, (we_fld (we_var rfl ⟨_, _, _, _, rfl, T.cl_Bargain, T.na_Bargain_product, rfl, (ro_i (cmc (by apply Bd.mono; (repeat (first | assumption | exact Bd.lit 64 (by decide +kernel) | exact Bd.lit 2000 (by decide +kernel) | apply Bd.neg | apply Bd.fdiv | apply Bd.mul | apply Bd.add2 | apply Bd.sub2)); decide) (by apply Bd.mono; (repeat (first | assumption | exact Bd.lit 64 (by decide +kernel) | exact Bd.lit 2000 (by decide +kernel) | apply Bd.neg | apply Bd.fdiv | apply Bd.mul | apply Bd.add2 | apply Bd.sub2)); decide)) (ro_i0 (we_op (we_op (we_var rfl (we_int (ro_ixT rfl (we_var rfl (ro_i (cmc (by apply Bd.mono; (repeat (first | assumption | exact Bd.lit 64 (by decide +kernel) | exact Bd.lit 2000 (by decide +kernel) | apply Bd.neg | apply Bd.fdiv | apply Bd.mul | apply Bd.add2 | apply Bd.sub2)); decide) (by apply Bd.mono; (repeat (first | assumption | exact Bd.lit 64 (by decide +kernel) | exact Bd.lit 2000 (by decide +kernel) | apply Bd.neg | apply Bd.fdiv | apply Bd.mul | apply Bd.add2 | apply Bd.sub2)); decide)) (ro_b0 ?_))))))))))⟩))⟩)))))))⟩))))))⟩))))
    · exact nomatch hc1
    · exact hk
theorem BestW.one {a u p w h lo hi lo2 hi2 V : Int} {d : D} (b : Bg a u p w h) (z : BgS a u p w h) (h1 : nar a ≤ V) (h2 : V ≤ wid a u p) (bs : BestW a u p w h lo hi d) (cv : ∀ x, lo2 ≤ x → x ≤ hi2 → (lo ≤ x ∧ x ≤ hi) ∨ x = V) (ne : lo2 ≤ hi2) :
    (d = .non → BestW a u p w h lo2 hi2 (t3 (w * V + h * hgt u p V) V (hgt u p V))) ∧ ∀ c x y, d = t3 c x y → (c ≤ w * V + h * hgt u p V → BestW a u p w h lo2 hi2 d) ∧ (w * V + h * hgt u p V ≤ c → BestW a u p w h lo2 hi2 (t3 (w * V + h * hgt u p V) V (hgt u p V))) := by
  have so := seen_one b z h1 h2
  refine ⟨fun e => ?_, fun c x y e => ⟨fun l => ?_, fun l => ?_⟩⟩
  · subst e
    refine .inr ⟨ne, _, _, _, rfl, so.of fun W' g1 g2 g3 => ?_⟩
    rcases bs with ⟨q, _⟩ | ⟨_, _, _, _, q, _⟩
    · rcases cv W' g1 g2 with x | x <;> omega
    · cases q
  · subst e
    rcases bs with ⟨_, q⟩ | ⟨_, c', x', y', q, s⟩
    · cases q
    · cases q
      refine .inr ⟨ne, _, _, _, rfl, s.of fun W' g1 g2 g3 => ?_⟩
      rcases cv W' g1 g2 with q | q
      · exact absurd q g3
      · subst q
        exact Int.le_trans l (so.le _ (Int.le_refl _) (Int.le_refl _))
  · subst e
    rcases bs with ⟨_, q⟩ | ⟨_, c', x', y', q, s⟩
    · cases q
    · cases q
      refine .inr ⟨ne, _, _, _, rfl, so.of fun W' g1 g2 g3 => ?_⟩
      rcases cv W' g1 g2 with q | q
      · exact Int.le_trans l (s.le _ q.1 q.2)
      · omega
def IW (a u p w h s : Int) (i : Nat) (d : D) : Prop := (i = 0 → d = .non) ∧ (i = 1 → BestW a u p w h s (wid a u p) d) ∧ (i = 2 → BestW a u p w h (nar a) (wid a u p) d)
/-- what a turn over the two directions is -/
structure TurnW (a u p w h : Int) (st : Int) (J : Int → D → Prop) (μ : Int → Nat) (Post : D → Prop) : Prop where
  bw : ∀ V d, J V d → ∃ lo hi, BestW a u p w h lo hi d
  st : ∀ V d d', J V d → nar a ≤ V → V ≤ wid a u p → (∀ lo hi lo2 hi2, BestW a u p w h lo hi d → (∀ x, lo2 ≤ x → x ≤ hi2 → (lo ≤ x ∧ x ≤ hi) ∨ x = V) → lo2 ≤ hi2 → BestW a u p w h lo2 hi2 d') → J (V + st) d' ∧ μ (V + st) < μ V
  out : ∀ V d, J V d → ¬ (nar a ≤ V ∧ V ≤ wid a u p) → Post d
  dear : ∀ V c x y, J V (t3 c x y) → nar a ≤ V → V ≤ wid a u p → c * V ≤ w * V * V + h * p → Post (t3 c x y)
theorem turns {a u p w h s : Int} {i : Nat} {x d : D} (b : Bg a u p w h) (s0 : nar a ≤ s) (s1 : s ≤ wid a u p) (su : ∀ W, s < W → W ≤ wid a u p → h * p ≤ w * W * W) (sd : ∀ W, nar a ≤ W → W < s → w * W * W ≤ h * p)
    (hx : [t2 s 1, t2 (s - 1) (-1)][i]? = some x) (hI : IW a u p w h s i d) : ∃ f st J μ, x = t2 f st ∧ TurnW a u p w h st J μ (IW a u p w h s (i + 1)) ∧ J f d := by
  have n0 : 1 ≤ nar a := by unfold nar; omega
  rcases i with _ | _ | i
  · cases hx
    refine ⟨s, 1, fun V d => s ≤ V ∧ V ≤ wid a u p + 1 ∧ BestW a u p w h s (V - 1) d, fun V => (wid a u p + 1 - V).toNat, rfl, ⟨fun V d j => ⟨_, _, j.2.2⟩, fun V d d' ⟨j1, j2, j3⟩ g1 g2 q => ?_, fun V d ⟨j1, j2, j3⟩ q => ?_, fun V c x y ⟨j1, j2, j3⟩ g1 g2 q => ?_⟩, ⟨Int.le_refl _, by omega, .inl ⟨by omega, hI.1 rfl⟩⟩⟩
    · refine ⟨⟨by omega, by omega, q _ _ _ _ j3 (fun x h1 h2 => by omega) (by omega)⟩, by omega⟩
    · have : V - 1 = wid a u p := by omega
      rw [this] at j3
      exact ⟨fun h => by omega, fun _ => j3, fun h => by omega⟩
    · refine ⟨fun h => by omega, fun _ => ?_, fun h => by omega⟩
      rcases j3 with ⟨_, r⟩ | ⟨r0, c', x', y', r, sn⟩
      · cases r
      · cases r
        refine .inr ⟨s1, _, _, _, rfl, sn.of fun W' h1 h2 h3 => ?_⟩
        exact stop_up (W := V) (W' := W') (Int.le_of_lt b.h0) (Int.le_of_lt b.w0) (by omega) (by omega) (su V (by omega) g2) q
  · cases hx
    refine ⟨s - 1, -1, fun V d => nar a - 1 ≤ V ∧ V ≤ s - 1 ∧ BestW a u p w h (V + 1) (wid a u p) d, fun V => (V + 1 - nar a).toNat, rfl, ⟨fun V d j => ⟨_, _, j.2.2⟩, fun V d d' ⟨j1, j2, j3⟩ g1 g2 q => ?_, fun V d ⟨j1, j2, j3⟩ q => ?_, fun V c x y ⟨j1, j2, j3⟩ g1 g2 q => ?_⟩, ⟨by omega, by omega, by rw [show s - 1 + 1 = s by omega]; exact hI.2.1 rfl⟩⟩
    · refine ⟨⟨by omega, by omega, q _ _ _ _ j3 (fun x h1 h2 => by omega) (by omega)⟩, by omega⟩
    · have : V + 1 = nar a := by omega
      rw [this] at j3
      exact ⟨fun h => by omega, fun h => by omega, fun _ => j3⟩
    · refine ⟨fun h => by omega, fun h => by omega, fun _ => ?_⟩
      rcases j3 with ⟨_, r⟩ | ⟨r0, c', x', y', r, sn⟩
      · cases r
      · cases r
        refine .inr ⟨by omega, _, _, _, rfl, sn.of fun W' h1 h2 h3 => ?_⟩
        exact stop_down (W := V) (W' := W') (Int.le_of_lt b.h0) (Int.le_of_lt b.w0) (by omega) (by omega) (sd V g1 (by omega)) q
  · cases hx
def pr_Bargain_frame_by_widths (T : Tx K mg) : Pr := fun ds B k e => ∃ a u p w h s : Int, ds = [bgD T a u p w h, .int s] ∧ Bg a u p w h ∧ BgS a u p w h ∧ nar a ≤ s ∧ s ≤ wid a u p ∧ (∀ W, s < W → W ≤ wid a u p → h * p ≤ w * W * W) ∧ (∀ W, nar a ≤ W → W < s → w * W * W ≤ h * p) ∧ ∀ W H, CF a u p w h W H → k (t2 W H) B
theorem okD_Bargain_frame_by_widths (T : Tx K mg) : FnOk P w K mg base (L2.CX P w) 2 T.a_Bargain_frame_by_widths T.d_Bargain_frame_by_widths P_Bargain_frame_by_widths (spD K (pr_Bargain_frame_by_widths T)) := by
  refine T.F_Bargain_frame_by_widths.okX sc_Bargain_frame_by_widths (spD_len fun ds B k e h => by obtain ⟨a, u, p, w1, h1, s, rfl, b, z, s0, s1, su, sd, hk⟩ := h; rfl) (fun cdv A outer s H vs Q E hr h => ?_)
  have G_Bargain_may_be_cheaper : FnOk P w K mg base (L2.CX P w) 1 _ _ _ _ := okD_Bargain_may_be_cheaper T
  have G_quotient_up : FnOk P w K mg base (L2.CX P w) 1 _ _ _ _ := okD_quotient_up T
  obtain ⟨G, ds, B, k, e, hs, hR, ⟨a, u, p, w1, h1, s, rfl, b, z, s0, s1, su, sd, hk⟩, hK, hX⟩ := h
  refine ⟨_, (pss_cons (ps_set (i := 2) sc_Bargain_frame_by_widths.nd rfl (.inl rfl) pe_non)
 (pss_cons (ps_for (passes_of rfl) rfl (pi_tup (pe_tup (pa_cons (pe_tup (pa_cons (pv 1) (pa_cons pe_int pa_nil))) (pa_cons (pe_tup (pa_cons (pe_op op_sub (pv 1) pe_int) (pa_cons (pe_un un_neg pe_int) pa_nil))) pa_nil)))) (pg_tup rfl (pgs_cons (pg_name (i := 3) sc_Bargain_frame_by_widths.nd rfl (.inl rfl)) (pgs_cons (pg_name (i := 4) sc_Bargain_frame_by_widths.nd rfl (.inl rfl)) pgs_nil)))
 (pss_cons (ps_set (i := 5) sc_Bargain_frame_by_widths.nd rfl (.inl rfl) (pv 3))
 (pss_one (ps_while (passes_of rfl) (PW.pt (pw_and (pt_chain op_le op_le (pe_fld (pv 0) rfl) (pv 5) (pe_fld (pv 0) rfl)) (pw_and1 (pt_val (pe_meth (pv 0) T.cl_Bargain T.M_Bargain_may_be_cheaper G_Bargain_may_be_cheaper (hr.mono (by decide)) T.b_Bargain_may_be_cheaper .nil passL (pa_cons (pv 5) (pa_cons (pv 2) pa_nil)))))))
 (pss_cons (ps_set (i := 6) sc_Bargain_frame_by_widths.nd rfl (.inl rfl) (pe_callB (call_max2 rfl) (by rfl) T.n_max (by decide +kernel) (pa_cons (pe_fld (pv 0) rfl) (pa_cons (pe_call G_quotient_up (hr.mono (by decide)) (by rfl) T.g_quotient_up T.F_quotient_up.kp T.b_quotient_up .nil passL (pa_cons (pe_fld (pv 0) rfl) (pa_cons (pv 5) pa_nil))) pa_nil))))
 (pss_cons (ps_set (i := 7) sc_Bargain_frame_by_widths.nd rfl (.inl rfl) (pe_tup (pa_cons (pe_op op_add (pe_op op_mulW (pe_fld (pv 0) rfl) (pv 5)) (pe_op op_mulW (pe_fld (pv 0) rfl) (pv 6))) (pa_cons (pv 5) (pa_cons (pv 6) pa_nil)))))
 (pss_cons (ps_set (i := 2) sc_Bargain_frame_by_widths.nd rfl (.inl rfl) (pe_ifExp (pt_cmp (pc_isN (pv 2))) (pv 7) (pe_callB (RM.cr_min2T rfl (un65 hr)) (by rfl) T.n_min (by decide +kernel) (pa_cons (pv 2) (pa_cons (pv 7) pa_nil)))))
 (pss_one (ps_set (i := 5) sc_Bargain_frame_by_widths.nd rfl (.inl rfl) (pe_op op_add (pv 5) (pv 4)))))))))))
 (pss_one (ps_ret (pe_tup (pa_cons (pe_ix ix_tup (pv 2) pe_int (fun _ _ => rfl)) (pa_cons (pe_ix ix_tup (pv 2) pe_int (fun _ _ => rfl)) pa_nil))))))), run_body (ρ := [some (bgD T a u p w1 h1), some (.int s), none, none, none, none, none, none]) hs hR hK hX rfl ?_⟩
  have n0 : 1 ≤ nar a := by unfold nar; omega
  have bs := z.bw2 b (by omega) s1
  have hh := b.h0
  have hw := b.w0
  have bw := z.bw
  have bh := z.bh
  have bp := z.bp
  refine ws_seq (ws_set (we_non ?_))
  refine ws_cut (fun ρ' B' => (∃ d o1 o2 o3 o4 o5, ρ' = [some (bgD T a u p w1 h1), some (.int s), some d, o1, o2, o3, o4, o5] ∧ BestW a u p w1 h1 (nar a) (wid a u p) d) ∧ B = B') ?_ ?_
  · refine ws_for_tup <| we_tup <| wa_cons <| we_tup <| wa_cons <| we_var rfl <| wa_cons <| we_int <| wa_nil ⟨Nat.le_of_ble_eq_true rfl, wa_cons <| we_tup <| wa_cons <| we_op <| we_var rfl <| we_int <| ro_i0 <| wa_cons <| we_neg <| we_int ⟨_, rfl, wa_nil ⟨Nat.le_of_ble_eq_true rfl, wa_nil ⟨Nat.le_of_ble_eq_true rfl, _, rfl, fun i ρ' B' => (∃ d o1 o2 o3 o4 o5, ρ' = [some (bgD T a u p w1 h1), some (.int s), some d, o1, o2, o3, o4, o5] ∧ IW a u p w1 h1 s i d) ∧ B = B', ⟨⟨_, _, _, _, _, _, rfl, fun _ => rfl, fun h => by omega, fun h => by omega⟩, rfl⟩, fun i x ρ' B' hx hI => ?_, fun ρ' B' ⟨⟨d, o1, o2, o3, o4, o5, e1, hI⟩, e2⟩ => ⟨⟨d, o1, o2, o3, o4, o5, e1, hI.2.2 rfl⟩, e2⟩⟩⟩⟩⟩
    obtain ⟨⟨d, o1, o2, o3, o4, o5, rfl, hI⟩, rfl⟩ := hI
    obtain ⟨f, st, J, μ, rfl, tw, j0⟩ := turns b s0 s1 su sd hx hI
    refine wg_tup rfl <| wgs_cons <| wg_name <| wgs_cons <| wg_name <| wgs_nil ?_
    refine ws_seq (ws_set (we_var rfl ?_))
    refine ws_while (fun n ρ' B' => (∃ V d o6 o7, ρ' = [some (bgD T a u p w1 h1), some (.int s), some d, some (.int f), some (.int st), some (.int V), o6, o7] ∧ J V d ∧ μ V = n) ∧ B = B') (μ f) ⟨⟨_, _, _, _, rfl, j0, rfl⟩, rfl⟩ ?_
    rintro n ρ' B' ⟨⟨V, d, o6, o7, rfl, j, rfl⟩, rfl⟩
    clear hI j0
    refine wt_and <| wt_test <| we_chain <| we_fld <| we_var rfl ⟨_, _, _, _, rfl, T.cl_Bargain, T.na_Bargain_narrowest, rfl, we_var rfl <| ro_b0 ⟨_, rfl, (fun g1 => we_fld <| we_var rfl ⟨_, _, _, _, rfl, T.cl_Bargain, T.na_Bargain_widest, rfl, ro_b0 ⟨_, rfl, (fun g2 => ?_), (fun g2 => ?_)⟩⟩), (fun g1 => ⟨_, rfl, (fun h => nomatch h), (fun _ => ?_)⟩)⟩⟩
    · have g1 := of_decide_eq_true g1
      have g2 := of_decide_eq_true g2
      have bV := z.bw2 b (by omega) g2
      obtain ⟨lo, hi, hb⟩ := tw.bw _ _ j
      have v0 : 0 < V := by omega
      have hd : (d = .non) ∨ ∃ c x y : Int, d = t3 c x y ∧ Bd 900 c := by
        rcases hb with ⟨_, q⟩ | ⟨_, c, x, y, q, sn⟩
        · exact .inl q
        · exact .inr ⟨c, x, y, q, sn.bd⟩
      refine wt_val (we_meth (we_var rfl ⟨_, _, rfl, by decide +kernel, wa_cons <| we_var rfl <| wa_cons <| we_var rfl <| wa_nil ⟨a, u, p, w1, h1, V, d, rfl, z, bV, ?_⟩⟩))
      have e1 : (if cu p V > u then cu p V else u) = hgt u p V := by unfold hgt; split <;> omega
      have bh2 := (z.bh2 b v0).1
      rcases hd with rfl | ⟨c, x, y, rfl, bc⟩
      · refine .inl ⟨rfl, _, rfl, (fun _ => ?_), (fun h => nomatch h)⟩
        refine ws_seq (ws_set (we_max2 (wa_cons (we_fld (we_var rfl ⟨_, _, _, _, rfl, T.cl_Bargain, T.na_Bargain_up, rfl, (wa_cons (we_call (wa_cons (we_fld (we_var rfl ⟨_, _, _, _, rfl, T.cl_Bargain, T.na_Bargain_product, rfl, (wa_cons (we_var rfl (wa_nil ⟨_, _, rfl, v0, bV.mono (by decide), (wa_nil ⟨_, _, rfl, ?_⟩)⟩)))⟩)))))⟩)))))
        rw [e1]
        refine ws_seq (ws_set (we_tup (wa_cons (we_op (we_op (we_fld (we_var rfl ⟨_, _, _, _, rfl, T.cl_Bargain, T.na_Bargain_wide, rfl, (we_var rfl (ro_i (cmc (by apply Bd.mono; (repeat (first | assumption | exact Bd.lit 64 (by decide +kernel) | exact Bd.lit 2000 (by decide +kernel) | apply Bd.neg | apply Bd.fdiv | apply Bd.mul | apply Bd.add2 | apply Bd.sub2)); decide) (by apply Bd.mono; (repeat (first | assumption | exact Bd.lit 64 (by decide +kernel) | exact Bd.lit 2000 (by decide +kernel) | apply Bd.neg | apply Bd.fdiv | apply Bd.mul | apply Bd.add2 | apply Bd.sub2)); decide)) (we_op (we_fld (we_var rfl ⟨_, _, _, _, rfl, T.cl_Bargain, T.na_Bargain_high, rfl, (we_var rfl (ro_i (cmc (by apply Bd.mono; (repeat (first | assumption | exact Bd.lit 64 (by decide +kernel) | exact Bd.lit 2000 (by decide +kernel) | apply Bd.neg | apply Bd.fdiv | apply Bd.mul | apply Bd.add2 | apply Bd.sub2)); decide) (by apply Bd.mono; (repeat (first | assumption | exact Bd.lit 64 (by decide +kernel) | exact Bd.lit 2000 (by decide +kernel) | apply Bd.neg | apply Bd.fdiv | apply Bd.mul | apply Bd.add2 | apply Bd.sub2)); decide)) (ro_i0 (wa_cons (we_var rfl (wa_cons (we_var rfl (wa_nil ⟨Nat.le_of_ble_eq_true rfl, ?_⟩))))))))⟩)))))⟩)))))))
        refine ws_seq (ws_set (we_ifE (wt_val (we_isN (we_var rfl ⟨_, rfl, (fun _ => we_var rfl ?_), (fun h => nomatch h)⟩)))))
        refine ws_set (we_op (we_var rfl (we_var rfl (ro_i0 ?_))))
        obtain ⟨q1, q2⟩ := tw.st V _ (t3 (w1 * V + h1 * hgt u p V) V (hgt u p V)) j g1 g2 fun lo hi lo2 hi2 r1 r2 r3 => (r1.one b z g1 g2 r2 r3).1 rfl
        exact ⟨_, q2, ⟨_, _, _, _, rfl, q1, rfl⟩, rfl⟩
      · refine .inr ⟨c, x, y, rfl, bc, _, rfl, (fun g3 => ?_), (fun g3 => ?_)⟩
        · refine ws_seq (ws_set (we_max2 (wa_cons (we_fld (we_var rfl ⟨_, _, _, _, rfl, T.cl_Bargain, T.na_Bargain_up, rfl, (wa_cons (we_call (wa_cons (we_fld (we_var rfl ⟨_, _, _, _, rfl, T.cl_Bargain, T.na_Bargain_product, rfl, (wa_cons (we_var rfl (wa_nil ⟨_, _, rfl, v0, bV.mono (by decide), (wa_nil ⟨_, _, rfl, ?_⟩)⟩)))⟩)))))⟩)))))
          rw [e1]
          refine ws_seq (ws_set (we_tup (wa_cons (we_op (we_op (we_fld (we_var rfl ⟨_, _, _, _, rfl, T.cl_Bargain, T.na_Bargain_wide, rfl, (we_var rfl (ro_i (cmc (by apply Bd.mono; (repeat (first | assumption | exact Bd.lit 64 (by decide +kernel) | exact Bd.lit 2000 (by decide +kernel) | apply Bd.neg | apply Bd.fdiv | apply Bd.mul | apply Bd.add2 | apply Bd.sub2)); decide) (by apply Bd.mono; (repeat (first | assumption | exact Bd.lit 64 (by decide +kernel) | exact Bd.lit 2000 (by decide +kernel) | apply Bd.neg | apply Bd.fdiv | apply Bd.mul | apply Bd.add2 | apply Bd.sub2)); decide)) (we_op (we_fld (we_var rfl ⟨_, _, _, _, rfl, T.cl_Bargain, T.na_Bargain_high, rfl, (we_var rfl (ro_i (cmc (by apply Bd.mono; (repeat (first | assumption | exact Bd.lit 64 (by decide +kernel) | exact Bd.lit 2000 (by decide +kernel) | apply Bd.neg | apply Bd.fdiv | apply Bd.mul | apply Bd.add2 | apply Bd.sub2)); decide) (by apply Bd.mono; (repeat (first | assumption | exact Bd.lit 64 (by decide +kernel) | exact Bd.lit 2000 (by decide +kernel) | apply Bd.neg | apply Bd.fdiv | apply Bd.mul | apply Bd.add2 | apply Bd.sub2)); decide)) (ro_i0 (wa_cons (we_var rfl (wa_cons (we_var rfl (wa_nil ⟨Nat.le_of_ble_eq_true rfl, ?_⟩))))))))⟩)))))⟩)))))))
          refine ws_seq (ws_set (we_ifE (wt_val (we_isN (we_var rfl ⟨_, rfl, (fun h => nomatch h), (fun _ => we_min2T (wa_cons (we_var rfl (wa_cons (we_var rfl (wa_nil ⟨[c, x, y], [w1 * V + h1 * hgt u p V, V, hgt u p V], rfl, (fun l => ?_), (fun l => ?_)⟩))))))⟩)))))
          · refine ws_set (we_op (we_var rfl (we_var rfl (ro_i0 ?_))))
            obtain ⟨q1, q2⟩ := tw.st V _ (t3 c x y) j g1 g2 fun lo hi lo2 hi2 r1 r2 r3 => ((r1.one b z g1 g2 r2 r3).2 _ _ _ rfl).1 (lexB l)
            exact ⟨_, q2, ⟨_, _, _, _, rfl, q1, rfl⟩, rfl⟩
          · refine ws_set (we_op (we_var rfl (we_var rfl (ro_i0 ?_))))
            obtain ⟨q1, q2⟩ := tw.st V _ (t3 (w1 * V + h1 * hgt u p V) V (hgt u p V)) j g1 g2 fun lo hi lo2 hi2 r1 r2 r3 => ((r1.one b z g1 g2 r2 r3).2 _ _ _ rfl).2 (lexB l)
            exact ⟨_, q2, ⟨_, _, _, _, rfl, q1, rfl⟩, rfl⟩
        · exact ⟨⟨_, _, _, _, _, _, rfl, tw.dear _ _ _ _ j g1 g2 (by have := of_decide_eq_false g3; omega)⟩, rfl⟩
    · have g2 := of_decide_eq_false g2
      exact ⟨(fun h => nomatch h), fun _ => ⟨⟨_, _, _, _, _, _, rfl, tw.out _ _ j (by omega)⟩, rfl⟩⟩
    · have g1 := of_decide_eq_false g1
      exact ⟨(fun h => nomatch h), fun _ => ⟨⟨_, _, _, _, _, _, rfl, tw.out _ _ j (by omega)⟩, rfl⟩⟩
  rintro _ _ ⟨⟨d, o1, o2, o3, o4, o5, rfl, hb⟩, rfl⟩
  rcases hb with ⟨q, _⟩ | ⟨_, c, W, H, rfl, sn⟩
  · unfold wid at q; omega
  · have cf : CF a u p w1 h1 W H := CF.all b sn.fr fun W' g1 g2 => by rw [← sn.co]; exact sn.le W' g1 g2
    refine (ws_ret (we_tup (wa_cons (we_op (we_var rfl (we_int (ro_ixT rfl (wa_cons (we_op (we_var rfl (we_int (ro_ixT rfl (wa_nil ⟨Nat.le_of_ble_eq_true rfl, ?_⟩)))))))))))))
    exact hk _ _ cf
end
end AW

set_option linter.all false
set_option maxRecDepth 100000
set_option maxHeartbeats 8000000
namespace AW
open PySem PySem.Spec PyProof.Rows L2 LamX Fewest
variable [Tbs]
section
variable {P : Program} {w : World} {K : PySem.W.Frag} {mg : Str → Option Value} {base : Heap}
def RtB (r a : Int) : Prop := 0 ≤ r ∧ r * r ≤ a ∧ a < (r + 1) * (r + 1)
theorem we_rootB {E : XK} {e : EW} {ρ : List (Option D)} {B : Int} {k : KD} {t : TA} (h : Wa K E e t ρ B fun ds B1 => ∃ a : Int, ds = [.int a] ∧ 0 ≤ a ∧ Bd 12000 a ∧ ∀ r : Int, RtB r a → k (.int r) B1) : We K E e (tCB rRoot t) ρ B k :=
  we_cb fun σ H G Q s en x q => h σ H G Q s en x fun ds vs B1 G1 H1 ⟨a, ed, a0, ba, hk⟩ e1 r1 => q ds vs B1 G1 H1 (fun ws H2 G2 Q2 s2 r2 q2 => by
    subst ed
    obtain ⟨v, _, rfl, rv, rfl⟩ := r2
    rw [show v = _ from rv]
    exact ⟨a, rfl, a0, ba, fun r r0 h1 h2 => q2 _ _ _ _ _ (hk r ⟨r0, h1, h2⟩) (Ext.refl s2) rfl⟩) e1 r1
theorem Bg.sw {a u p w h : Int} (b : Bg a u p w h) : Bg u a p h w := ⟨b.u0, b.a0, by rw [Int.mul_comm]; exact b.hp, b.h0, b.w0⟩
theorem Fr.sw {a u p W H : Int} (f : Fr a u p W H) : Fr u a p H W := ⟨f.2.1, f.1, by rw [Int.mul_comm]; exact f.2.2⟩
theorem cu_pos {n d : Int} (hd : 0 < d) (hn : 0 < n) : 0 < cu n d := by
  have := (cu_ge (n := n) hd).1
  refine Int.lt_of_not_ge fun q => ?_
  have : d * cu n d ≤ 0 := Int.mul_nonpos_of_nonneg_of_nonpos (by omega) (by omega)
  omega
theorem side_pos {a u p w h : Int} (b : Bg a u p w h) (hs : h * p ≤ w * a * a) : 0 < a := by
  have hp : 0 < h * p := Int.mul_pos b.h0 b.p0
  have a0 := b.a0
  refine Int.lt_of_not_ge fun z => ?_
  have : a = 0 := by omega
  subst this
  rw [Int.mul_zero] at hs
  omega
theorem CF.ex {a u p w h : Int} (b : Bg a u p w h) : ∃ W H, CF a u p w h W H := by
  have key : ∀ n : Nat, (∃ W H, Fr a u p W H ∧ (w * W + h * H).toNat = n) → ∃ W H, CF a u p w h W H := by
    intro n
    induction n using Nat.strongRecOn with
    | ind n ih =>
      rintro ⟨W, H, f, e⟩
      by_cases q : ∃ W' H', Fr a u p W' H' ∧ w * W' + h * H' < w * W + h * H
      · obtain ⟨W', H', f', l⟩ := q
        obtain ⟨W0, H0⟩ := f'.pos b
        have := Int.mul_pos b.w0 W0
        have := Int.mul_pos b.h0 H0
        exact ih _ (by omega) ⟨W', H', f', rfl⟩
      · exact ⟨W, H, f, fun W' H' f' => Int.not_lt.mp fun l => q ⟨W', H', f', l⟩⟩
  exact key _ ⟨nar a, hgt u p (nar a), hgt_fr (by unfold nar; omega) (by unfold nar; omega), rfl⟩
theorem CF.bd {a u p w h W H : Int} (b : Bg a u p w h) (z : BgS a u p w h) (c : CF a u p w h W H) : Bd 900 (w * W + h * H) ∧ 0 < w * W + h * H := by
  obtain ⟨W0, H0⟩ := c.fr.pos b
  have x0 := Int.mul_pos b.w0 W0
  have y0 := Int.mul_pos b.h0 H0
  have s := seen_one b z (Int.le_refl _) (show nar a ≤ wid a u p by unfold wid; omega)
  have l := c.le _ _ s.fr
  exact ⟨Bd.of_le (by omega) l s.bd, by omega⟩
def pr_Bargain_least_cost (T : Tx K mg) : Pr := fun ds B k e => ∃ a u p w h : Int, ds = [bgD T a u p w h] ∧ Bg a u p w h ∧ BgS a u p w h ∧ ∀ c, 0 ≤ c → (∀ W H, Fr a u p W H → c ≤ w * W + h * H) → k (.int c) B
theorem okD_Bargain_least_cost (T : Tx K mg) : FnOk P w K mg base (L2.CX P w) 2 T.a_Bargain_least_cost T.d_Bargain_least_cost P_Bargain_least_cost (spD K (pr_Bargain_least_cost T)) := by
  refine T.F_Bargain_least_cost.okX sc_Bargain_least_cost (spD_len fun ds B k e h => by obtain ⟨a, u, p, w1, h1, rfl, b, z, hk⟩ := h; rfl) (fun cdv A outer s H vs Q E hr h => ?_)
  have G_quotient_up : FnOk P w K mg base (L2.CX P w) 1 _ _ _ _ := okD_quotient_up T
  obtain ⟨G, ds, B, k, e, hs, hR, ⟨a, u, p, w1, h1, rfl, b, z, hk⟩, hK, hX⟩ := h
  refine ⟨_, (pss_cons (ps_par3 (i := 1) (j := 2) (l := 3) (by rfl) sc_Bargain_least_cost.nd rfl rfl rfl (by decide) (by decide) (by decide) rfl rfl rfl (pa_cons (pe_fld (pv 0) rfl) (pa_cons (pe_fld (pv 0) rfl) (pa_cons (pe_fld (pv 0) rfl) pa_nil))) (by rfl))
 (pss_cons (ps_if (pt_cmpR op_ge (pe_op op_mulW (pe_op op_mulW (pv 1) (pe_fld (pv 0) rfl)) (pe_fld (pv 0) rfl)) (pe_op op_mulW (pv 2) (pv 3)) (nomark _))
 (pss_one (ps_ret (pe_op op_add (pe_op op_mulW (pv 1) (pe_fld (pv 0) rfl)) (pe_call G_quotient_up (hr.mono (by decide)) (by rfl) T.g_quotient_up T.F_quotient_up.kp T.b_quotient_up .nil passL (pa_cons (pe_op op_mulW (pv 2) (pv 3)) (pa_cons (pe_fld (pv 0) rfl) pa_nil))))))
 pss_nil)
 (pss_cons (ps_if (pt_cmpR op_ge (pe_op op_mulW (pe_op op_mulW (pv 2) (pe_fld (pv 0) rfl)) (pe_fld (pv 0) rfl)) (pe_op op_mulW (pv 1) (pv 3)) (nomark _))
 (pss_one (ps_ret (pe_op op_add (pe_op op_mulW (pv 2) (pe_fld (pv 0) rfl)) (pe_call G_quotient_up (hr.mono (by decide)) (by rfl) T.g_quotient_up T.F_quotient_up.kp T.b_quotient_up .nil passL (pa_cons (pe_op op_mulW (pv 1) (pv 3)) (pa_cons (pe_fld (pv 0) rfl) pa_nil))))))
 pss_nil)
 (pss_one (ps_ret (pe_op op_add (pe_callBfun cr_root (by rfl) T.mi_isqrt (pa_cons (pe_op op_sub (pe_op op_mulW (pe_op op_mulW (pe_op op_mul pe_int (pv 1)) (pv 2)) (pv 3)) pe_int) pa_nil)) pe_int)))))), run_body (ρ := [some (bgD T a u p w1 h1), none, none, none]) hs hR hK hX rfl ?_⟩
  have ba := z.ba
  have bu := z.bu
  have bw := z.bw
  have bh := z.bh
  have bp := z.bp
  have p0 := b.p0
  have hp0 := Int.mul_pos b.h0 p0
  have wp0 := Int.mul_pos b.w0 p0
  refine ws_seq (ws_par3 (wa_cons (we_fld (we_var rfl ⟨_, _, _, _, rfl, T.cl_Bargain, T.na_Bargain_wide, rfl, (wa_cons (we_fld (we_var rfl ⟨_, _, _, _, rfl, T.cl_Bargain, T.na_Bargain_high, rfl, (wa_cons (we_fld (we_var rfl ⟨_, _, _, _, rfl, T.cl_Bargain, T.na_Bargain_product, rfl, (wa_nil ⟨_, _, _, rfl, ?_⟩)⟩)))⟩)))⟩))))
  have n4 : 0 < 4 * w1 * h1 * p := by
    have e : 4 * w1 * h1 * p = 4 * (w1 * (h1 * p)) := by grind
    have := Int.mul_pos b.w0 hp0
    rw [e]; omega
  have b4 : Bd 12000 (4 * w1 * h1 * p - 1) := (by apply Bd.mono; (repeat (first | assumption | exact Bd.lit 64 (by decide +kernel) | exact Bd.lit 2000 (by decide +kernel) | apply Bd.neg | apply Bd.fdiv | apply Bd.mul | apply Bd.add2 | apply Bd.sub2)); decide)
  refine ws_seq (ws_if (wt_test (we_op (we_op (we_op (we_var rfl (we_fld (we_var rfl ⟨_, _, _, _, rfl, T.cl_Bargain, T.na_Bargain_across, rfl, (ro_i (cmc (by apply Bd.mono; (repeat (first | assumption | exact Bd.lit 64 (by decide +kernel) | exact Bd.lit 2000 (by decide +kernel) | apply Bd.neg | apply Bd.fdiv | apply Bd.mul | apply Bd.add2 | apply Bd.sub2)); decide) (by apply Bd.mono; (repeat (first | assumption | exact Bd.lit 64 (by decide +kernel) | exact Bd.lit 2000 (by decide +kernel) | apply Bd.neg | apply Bd.fdiv | apply Bd.mul | apply Bd.add2 | apply Bd.sub2)); decide)) (we_fld (we_var rfl ⟨_, _, _, _, rfl, T.cl_Bargain, T.na_Bargain_across, rfl, (ro_i (cmc (by apply Bd.mono; (repeat (first | assumption | exact Bd.lit 64 (by decide +kernel) | exact Bd.lit 2000 (by decide +kernel) | apply Bd.neg | apply Bd.fdiv | apply Bd.mul | apply Bd.add2 | apply Bd.sub2)); decide) (by apply Bd.mono; (repeat (first | assumption | exact Bd.lit 64 (by decide +kernel) | exact Bd.lit 2000 (by decide +kernel) | apply Bd.neg | apply Bd.fdiv | apply Bd.mul | apply Bd.add2 | apply Bd.sub2)); decide)) (we_op (we_var rfl (we_var rfl (ro_i (cmc (by apply Bd.mono; (repeat (first | assumption | exact Bd.lit 64 (by decide +kernel) | exact Bd.lit 2000 (by decide +kernel) | apply Bd.neg | apply Bd.fdiv | apply Bd.mul | apply Bd.add2 | apply Bd.sub2)); decide) (by apply Bd.mono; (repeat (first | assumption | exact Bd.lit 64 (by decide +kernel) | exact Bd.lit 2000 (by decide +kernel) | apply Bd.neg | apply Bd.fdiv | apply Bd.mul | apply Bd.add2 | apply Bd.sub2)); decide)) (ro_b0 ⟨_, rfl, ⟨fun hc1 => ?_, fun hc2 => ?_⟩⟩))))))⟩)))⟩))))))))
  · refine (ws_ret (we_op (we_op (we_var rfl (we_fld (we_var rfl ⟨_, _, _, _, rfl, T.cl_Bargain, T.na_Bargain_across, rfl, (ro_i (cmc (by apply Bd.mono; (repeat (first | assumption | exact Bd.lit 64 (by decide +kernel) | exact Bd.lit 2000 (by decide +kernel) | apply Bd.neg | apply Bd.fdiv | apply Bd.mul | apply Bd.add2 | apply Bd.sub2)); decide) (by apply Bd.mono; (repeat (first | assumption | exact Bd.lit 64 (by decide +kernel) | exact Bd.lit 2000 (by decide +kernel) | apply Bd.neg | apply Bd.fdiv | apply Bd.mul | apply Bd.add2 | apply Bd.sub2)); decide)) (we_call (wa_cons (we_op (we_var rfl (we_var rfl (ro_i (cmc (by apply Bd.mono; (repeat (first | assumption | exact Bd.lit 64 (by decide +kernel) | exact Bd.lit 2000 (by decide +kernel) | apply Bd.neg | apply Bd.fdiv | apply Bd.mul | apply Bd.add2 | apply Bd.sub2)); decide) (by apply Bd.mono; (repeat (first | assumption | exact Bd.lit 64 (by decide +kernel) | exact Bd.lit 2000 (by decide +kernel) | apply Bd.neg | apply Bd.fdiv | apply Bd.mul | apply Bd.add2 | apply Bd.sub2)); decide)) (wa_cons (we_fld (we_var rfl ⟨_, _, _, _, rfl, T.cl_Bargain, T.na_Bargain_across, rfl, (wa_nil ⟨_, _, rfl, side_pos b (of_decide_eq_true hc1), ba.mono (by decide), (ro_i0 ?_)⟩)⟩))))))))))⟩))))))
    exact hk _ (by have := cu_pos (side_pos b (of_decide_eq_true hc1)) hp0; have := Int.mul_nonneg (Int.le_of_lt b.w0) b.a0; omega) fun W H f => lc_side b f (of_decide_eq_true hc1)
  · refine ws_next ?_
    refine ws_seq (ws_if (wt_test (we_op (we_op (we_op (we_var rfl (we_fld (we_var rfl ⟨_, _, _, _, rfl, T.cl_Bargain, T.na_Bargain_up, rfl, (ro_i (cmc (by apply Bd.mono; (repeat (first | assumption | exact Bd.lit 64 (by decide +kernel) | exact Bd.lit 2000 (by decide +kernel) | apply Bd.neg | apply Bd.fdiv | apply Bd.mul | apply Bd.add2 | apply Bd.sub2)); decide) (by apply Bd.mono; (repeat (first | assumption | exact Bd.lit 64 (by decide +kernel) | exact Bd.lit 2000 (by decide +kernel) | apply Bd.neg | apply Bd.fdiv | apply Bd.mul | apply Bd.add2 | apply Bd.sub2)); decide)) (we_fld (we_var rfl ⟨_, _, _, _, rfl, T.cl_Bargain, T.na_Bargain_up, rfl, (ro_i (cmc (by apply Bd.mono; (repeat (first | assumption | exact Bd.lit 64 (by decide +kernel) | exact Bd.lit 2000 (by decide +kernel) | apply Bd.neg | apply Bd.fdiv | apply Bd.mul | apply Bd.add2 | apply Bd.sub2)); decide) (by apply Bd.mono; (repeat (first | assumption | exact Bd.lit 64 (by decide +kernel) | exact Bd.lit 2000 (by decide +kernel) | apply Bd.neg | apply Bd.fdiv | apply Bd.mul | apply Bd.add2 | apply Bd.sub2)); decide)) (we_op (we_var rfl (we_var rfl (ro_i (cmc (by apply Bd.mono; (repeat (first | assumption | exact Bd.lit 64 (by decide +kernel) | exact Bd.lit 2000 (by decide +kernel) | apply Bd.neg | apply Bd.fdiv | apply Bd.mul | apply Bd.add2 | apply Bd.sub2)); decide) (by apply Bd.mono; (repeat (first | assumption | exact Bd.lit 64 (by decide +kernel) | exact Bd.lit 2000 (by decide +kernel) | apply Bd.neg | apply Bd.fdiv | apply Bd.mul | apply Bd.add2 | apply Bd.sub2)); decide)) (ro_b0 ⟨_, rfl, ⟨fun hc5 => ?_, fun hc6 => ?_⟩⟩))))))⟩)))⟩))))))))
    · refine (ws_ret (we_op (we_op (we_var rfl (we_fld (we_var rfl ⟨_, _, _, _, rfl, T.cl_Bargain, T.na_Bargain_up, rfl, (ro_i (cmc (by apply Bd.mono; (repeat (first | assumption | exact Bd.lit 64 (by decide +kernel) | exact Bd.lit 2000 (by decide +kernel) | apply Bd.neg | apply Bd.fdiv | apply Bd.mul | apply Bd.add2 | apply Bd.sub2)); decide) (by apply Bd.mono; (repeat (first | assumption | exact Bd.lit 64 (by decide +kernel) | exact Bd.lit 2000 (by decide +kernel) | apply Bd.neg | apply Bd.fdiv | apply Bd.mul | apply Bd.add2 | apply Bd.sub2)); decide)) (we_call (wa_cons (we_op (we_var rfl (we_var rfl (ro_i (cmc (by apply Bd.mono; (repeat (first | assumption | exact Bd.lit 64 (by decide +kernel) | exact Bd.lit 2000 (by decide +kernel) | apply Bd.neg | apply Bd.fdiv | apply Bd.mul | apply Bd.add2 | apply Bd.sub2)); decide) (by apply Bd.mono; (repeat (first | assumption | exact Bd.lit 64 (by decide +kernel) | exact Bd.lit 2000 (by decide +kernel) | apply Bd.neg | apply Bd.fdiv | apply Bd.mul | apply Bd.add2 | apply Bd.sub2)); decide)) (wa_cons (we_fld (we_var rfl ⟨_, _, _, _, rfl, T.cl_Bargain, T.na_Bargain_up, rfl, (wa_nil ⟨_, _, rfl, side_pos b.sw (of_decide_eq_true hc5), bu.mono (by decide), (ro_i0 ?_)⟩)⟩))))))))))⟩))))))
      exact hk _ (by have := cu_pos (side_pos b.sw (of_decide_eq_true hc5)) wp0; have := Int.mul_nonneg (Int.le_of_lt b.h0) b.u0; omega) fun W H f => by have := lc_side b.sw f.sw (of_decide_eq_true hc5); omega
    · refine ws_next ?_
      refine (ws_ret (we_op (we_rootB (wa_cons (we_op (we_op (we_op (we_op (we_int (we_var rfl (ro_i (.inl ⟨by decide +kernel, by decide +kernel⟩) (we_var rfl (ro_i (cmc (by apply Bd.mono; (repeat (first | assumption | exact Bd.lit 64 (by decide +kernel) | exact Bd.lit 2000 (by decide +kernel) | apply Bd.neg | apply Bd.fdiv | apply Bd.mul | apply Bd.add2 | apply Bd.sub2)); decide) (by apply Bd.mono; (repeat (first | assumption | exact Bd.lit 64 (by decide +kernel) | exact Bd.lit 2000 (by decide +kernel) | apply Bd.neg | apply Bd.fdiv | apply Bd.mul | apply Bd.add2 | apply Bd.sub2)); decide)) (we_var rfl (ro_i (cmc (by apply Bd.mono; (repeat (first | assumption | exact Bd.lit 64 (by decide +kernel) | exact Bd.lit 2000 (by decide +kernel) | apply Bd.neg | apply Bd.fdiv | apply Bd.mul | apply Bd.add2 | apply Bd.sub2)); decide) (by apply Bd.mono; (repeat (first | assumption | exact Bd.lit 64 (by decide +kernel) | exact Bd.lit 2000 (by decide +kernel) | apply Bd.neg | apply Bd.fdiv | apply Bd.mul | apply Bd.add2 | apply Bd.sub2)); decide)) (we_int (ro_i0 (wa_nil ⟨_, rfl, by omega, b4, fun r hr => (we_int (ro_i0 ?_))⟩))))))))))))))))))
      exact hk _ (by have := hr.1; omega) fun W H f => lc_mid b f hr.1 hr.2.1
def pr_Bargain_frame_of_cost (T : Tx K mg) : Pr := fun ds B k e => ∃ a u p w h c s : Int, ds = [bgD T a u p w h, .int c, .int s] ∧ Bg a u p w h ∧ BgS a u p w h ∧ Bd 1050 c ∧ Bd 1300 s ∧ (∃ t, w * s = c + h * t) ∧ (∃ x y, w * x + h * y = 1) ∧ (∀ W H, Fr a u p W H → w * W + h * H = c → k (t2 W H) B) ∧ ((∀ W H, Fr a u p W H → w * W + h * H ≠ c) → k .non B)
theorem okD_Bargain_frame_of_cost (T : Tx K mg) : FnOk P w K mg base (L2.CX P w) 1 T.a_Bargain_frame_of_cost T.d_Bargain_frame_of_cost P_Bargain_frame_of_cost (spD K (pr_Bargain_frame_of_cost T)) := by
  refine T.F_Bargain_frame_of_cost.okX sc_Bargain_frame_of_cost (spD_len fun ds B k e h => by obtain ⟨a, u, p, w1, h1, c, s, rfl, b, z, bc, bs, ⟨t, ht⟩, ⟨x, y, hxy⟩, hk, hn⟩ := h; rfl) (fun cdv A outer s H vs Q E hr h => ?_)
  obtain ⟨G, ds, B, k, e, hs, hR, ⟨a, u, p, w1, h1, c, s, rfl, b, z, bc, bs, ⟨t, ht⟩, ⟨x, y, hxy⟩, hk, hn⟩, hK, hX⟩ := h
  refine ⟨_, (pss_cons (ps_set (i := 3) sc_Bargain_frame_of_cost.nd rfl (.inl rfl) (pe_callB (call_min2 rfl) (by rfl) T.n_min (by decide +kernel) (pa_cons (pe_callB (call_max2 rfl) (by rfl) T.n_max (by decide +kernel) (pa_cons (pe_op op_fdivG (pv 1) (pe_op op_mul pe_int (pe_fld (pv 0) rfl))) (pa_cons (pe_fld (pv 0) rfl) pa_nil))) (pa_cons (pe_op op_fdivG (pe_op op_sub (pv 1) (pe_op op_mulW (pe_fld (pv 0) rfl) (pe_fld (pv 0) rfl))) (pe_fld (pv 0) rfl)) pa_nil))))
 (pss_cons (ps_set (i := 4) sc_Bargain_frame_of_cost.nd rfl (.inl rfl) (pe_op op_sub (pv 3) (pe_op op_modN (pe_op op_sub (pv 3) (pv 2)) (pe_fld (pv 0) rfl))))
 (pss_cons (ps_for (passes_of rfl) rfl (pi_tup (pe_tup (pa_cons (pv 4) (pa_cons (pe_op op_add (pv 4) (pe_fld (pv 0) rfl)) pa_nil)))) (pg_name (i := 5) sc_Bargain_frame_of_cost.nd rfl (.inl rfl))
 (pss_cons (ps_set (i := 6) sc_Bargain_frame_of_cost.nd rfl (.inl rfl) (pe_op op_fdivG (pe_op op_sub (pv 1) (pe_op op_mulW (pe_fld (pv 0) rfl) (pv 5))) (pe_fld (pv 0) rfl)))
 (pss_one (ps_if (PW.pt (pw_and (pt_cmpR op_ge (pv 5) (pe_fld (pv 0) rfl) (nomark _)) (pw_and (pt_cmpR op_ge (pv 6) (pe_fld (pv 0) rfl) (nomark _)) (pw_and1 (pt_cmpR op_ge (pe_op op_mulW (pv 5) (pv 6)) (pe_fld (pv 0) rfl) (nomark _))))))
 (pss_one (ps_ret (pe_tup (pa_cons (pv 5) (pa_cons (pv 6) pa_nil)))))
 pss_nil))))
 (pss_one (ps_ret pe_non))))), run_body (ρ := [some (bgD T a u p w1 h1), some (.int c), some (.int s), none, none, none, none]) hs hR hK hX rfl ?_⟩
  have ba := z.ba
  have bu := z.bu
  have bw := z.bw
  have bh := z.bh
  have bp := z.bp
  have w0 := b.w0
  have h0 := b.h0
  refine ws_seq (ws_set (we_min2 (wa_cons (we_max2 (wa_cons (we_op (we_var rfl (we_op (we_int (we_fld (we_var rfl ⟨_, _, _, _, rfl, T.cl_Bargain, T.na_Bargain_wide, rfl, (ro_i (.inl ⟨by decide +kernel, by decide +kernel⟩) (ro_i ⟨by omega, lg (by apply Bd.mono; (repeat (first | assumption | exact Bd.lit 64 (by decide +kernel) | exact Bd.lit 2000 (by decide +kernel) | apply Bd.neg | apply Bd.fdiv | apply Bd.mul | apply Bd.add2 | apply Bd.sub2)); decide)⟩ (wa_cons (we_fld (we_var rfl ⟨_, _, _, _, rfl, T.cl_Bargain, T.na_Bargain_across, rfl, (wa_nil ⟨_, _, rfl, (wa_cons (we_op (we_op (we_var rfl (we_op (we_fld (we_var rfl ⟨_, _, _, _, rfl, T.cl_Bargain, T.na_Bargain_high, rfl, (we_fld (we_var rfl ⟨_, _, _, _, rfl, T.cl_Bargain, T.na_Bargain_up, rfl, (ro_i (cmc (by apply Bd.mono; (repeat (first | assumption | exact Bd.lit 64 (by decide +kernel) | exact Bd.lit 2000 (by decide +kernel) | apply Bd.neg | apply Bd.fdiv | apply Bd.mul | apply Bd.add2 | apply Bd.sub2)); decide) (by apply Bd.mono; (repeat (first | assumption | exact Bd.lit 64 (by decide +kernel) | exact Bd.lit 2000 (by decide +kernel) | apply Bd.neg | apply Bd.fdiv | apply Bd.mul | apply Bd.add2 | apply Bd.sub2)); decide)) (ro_i0 (we_fld (we_var rfl ⟨_, _, _, _, rfl, T.cl_Bargain, T.na_Bargain_wide, rfl, (ro_i ⟨by omega, lg (by apply Bd.mono; (repeat (first | assumption | exact Bd.lit 64 (by decide +kernel) | exact Bd.lit 2000 (by decide +kernel) | apply Bd.neg | apply Bd.fdiv | apply Bd.mul | apply Bd.add2 | apply Bd.sub2)); decide)⟩ (wa_nil ⟨_, _, rfl, ?_⟩))⟩))))⟩))⟩)))))))⟩)⟩)))))⟩)))))))))))
  rw [mx_max, mn_min, show min (max (c.fdiv (2 * w1)) a) ((c - h1 * u).fdiv w1) = pkF a u w1 h1 c from rfl]
  refine ws_seq (ws_set (we_op (we_var rfl (we_op (we_op (we_var rfl (we_var rfl (ro_i0 (we_fld (we_var rfl ⟨_, _, _, _, rfl, T.cl_Bargain, T.na_Bargain_high, rfl, (ro_i (by omega) (ro_i0 ?_))⟩))))))))))
  rw [show pkF a u w1 h1 c - (pkF a u w1 h1 c - s).fmod h1 = blF a u w1 h1 c s from rfl]
  have bpk : Bd 1600 (pkF a u w1 h1 c) := by
    have q1 : Bd 1600 (c.fdiv (2 * w1)) := (by apply Bd.mono; (repeat (first | assumption | exact Bd.lit 64 (by decide +kernel) | exact Bd.lit 2000 (by decide +kernel) | apply Bd.neg | apply Bd.fdiv | apply Bd.mul | apply Bd.add2 | apply Bd.sub2)); decide)
    have q2 : Bd 1600 ((c - h1 * u).fdiv w1) := (by apply Bd.mono; (repeat (first | assumption | exact Bd.lit 64 (by decide +kernel) | exact Bd.lit 2000 (by decide +kernel) | apply Bd.neg | apply Bd.fdiv | apply Bd.mul | apply Bd.add2 | apply Bd.sub2)); decide)
    have q3 : Bd 1600 a := (by apply Bd.mono; (repeat (first | assumption | exact Bd.lit 64 (by decide +kernel) | exact Bd.lit 2000 (by decide +kernel) | apply Bd.neg | apply Bd.fdiv | apply Bd.mul | apply Bd.add2 | apply Bd.sub2)); decide)
    unfold pkF
    unfold Bd at *
    omega
  obtain ⟨m1, m2, m3⟩ := bl_mod (a := a) (u := u) (w := w1) (C := c) (s := s) h0
  have bbl : Bd 1601 (blF a u w1 h1 c s) := by
    have q3 : Bd 1600 h1 := (by apply Bd.mono; (repeat (first | assumption | exact Bd.lit 64 (by decide +kernel) | exact Bd.lit 2000 (by decide +kernel) | apply Bd.neg | apply Bd.fdiv | apply Bd.mul | apply Bd.add2 | apply Bd.sub2)); decide)
    have e : (2 : Nat) ^ 1601 = 2 * 2 ^ 1600 := by rw [Nat.pow_succ, Nat.mul_comm]
    unfold Bd at *
    omega
  have good := fun W H => good_of (W := W) (H := H) (C := c) (s := s) b ht hxy
  have fr1 := good_fr (a := a) (u := u) (P := p) (w := w1) (W := blF a u w1 h1 c s) h0 ht m1
  have fr2 := good_fr (a := a) (u := u) (P := p) (w := w1) (W := blF a u w1 h1 c s + h1) h0 ht (by obtain ⟨q, e⟩ := m1; exact ⟨q + 1, by rw [Int.mul_add]; omega⟩)
  generalize pkF a u w1 h1 c = pk at *
  generalize blF a u w1 h1 c s = bl at *
  refine ws_cut (fun ρ' B' => (∃ o1 o2, ρ' = [some (bgD T a u p w1 h1), some (.int c), some (.int s), some (.int pk), some (.int bl), o1, o2] ∧ ¬ GoodW a u p w1 h1 c bl ∧ ¬ GoodW a u p w1 h1 c (bl + h1)) ∧ B = B') ?_ ?_
  · refine ws_for_tup <| we_tup <| wa_cons <| we_var rfl <| wa_cons <| we_op <| we_var rfl <| we_fld <| we_var rfl ⟨_, _, _, _, rfl, T.cl_Bargain, T.na_Bargain_high, rfl, ro_i0 <| wa_nil ⟨Nat.le_of_ble_eq_true rfl, _, rfl, fun i ρ' B' => (∃ o1 o2, ρ' = [some (bgD T a u p w1 h1), some (.int c), some (.int s), some (.int pk), some (.int bl), o1, o2] ∧ (1 ≤ i → ¬ GoodW a u p w1 h1 c bl) ∧ (2 ≤ i → ¬ GoodW a u p w1 h1 c (bl + h1))) ∧ B = B', ⟨⟨_, _, rfl, (fun h => by omega), (fun h => by omega)⟩, rfl⟩, fun i x ρ' B' hx hI => ?_, fun ρ' B' ⟨⟨o1, o2, e1, k1, k2⟩, e2⟩ => ⟨⟨o1, o2, e1, k1 (Nat.le_of_ble_eq_true rfl), k2 (Nat.le_of_ble_eq_true rfl)⟩, e2⟩⟩⟩
    obtain ⟨⟨o1, o2, rfl, g1, g2⟩, rfl⟩ := hI
    obtain ⟨W, rfl, bW, hW, nx⟩ : ∃ W : Int, x = .int W ∧ Bd 1602 W ∧ (GoodW a u p w1 h1 c W → Fr a u p W ((c - w1 * W).fdiv h1) ∧ w1 * W + h1 * (c - w1 * W).fdiv h1 = c) ∧ (¬ GoodW a u p w1 h1 c W → (1 ≤ i + 1 → ¬ GoodW a u p w1 h1 c bl) ∧ (2 ≤ i + 1 → ¬ GoodW a u p w1 h1 c (bl + h1))) := by
      rcases i with _ | _ | i
      · cases hx
        exact ⟨_, rfl, bbl.mono (by decide), fr1, fun q => ⟨fun _ => q, fun h => by omega⟩⟩
      · cases hx
        exact ⟨_, rfl, Bd.mono (bbl.add (bh.mono (by decide))) (by decide), fr2, fun q => ⟨fun _ => g1 (by omega), fun h => q⟩⟩
      · cases hx
    refine wg_name ?_
    refine ws_seq (ws_set (we_op (we_op (we_var rfl (we_op (we_fld (we_var rfl ⟨_, _, _, _, rfl, T.cl_Bargain, T.na_Bargain_wide, rfl, (we_var rfl (ro_i (cmc (by apply Bd.mono; (repeat (first | assumption | exact Bd.lit 64 (by decide +kernel) | exact Bd.lit 2000 (by decide +kernel) | apply Bd.neg | apply Bd.fdiv | apply Bd.mul | apply Bd.add2 | apply Bd.sub2)); decide) (by apply Bd.mono; (repeat (first | assumption | exact Bd.lit 64 (by decide +kernel) | exact Bd.lit 2000 (by decide +kernel) | apply Bd.neg | apply Bd.fdiv | apply Bd.mul | apply Bd.add2 | apply Bd.sub2)); decide)) (ro_i0 (we_fld (we_var rfl ⟨_, _, _, _, rfl, T.cl_Bargain, T.na_Bargain_high, rfl, (ro_i ⟨by omega, lg (by apply Bd.mono; (repeat (first | assumption | exact Bd.lit 64 (by decide +kernel) | exact Bd.lit 2000 (by decide +kernel) | apply Bd.neg | apply Bd.fdiv | apply Bd.mul | apply Bd.add2 | apply Bd.sub2)); decide)⟩ ?_)⟩)))))⟩)))))))
    have bH : Bd 3300 ((c - w1 * W).fdiv h1) := (by apply Bd.mono; (repeat (first | assumption | exact Bd.lit 64 (by decide +kernel) | exact Bd.lit 2000 (by decide +kernel) | apply Bd.neg | apply Bd.fdiv | apply Bd.mul | apply Bd.add2 | apply Bd.sub2)); decide)
    generalize hH : (c - w1 * W).fdiv h1 = H at *
    refine (ws_if (wt_and (wt_test (we_op (we_var rfl (we_fld (we_var rfl ⟨_, _, _, _, rfl, T.cl_Bargain, T.na_Bargain_across, rfl, (ro_b0 ⟨_, rfl, ⟨fun hc1 => (wt_and (wt_test (we_op (we_var rfl (we_fld (we_var rfl ⟨_, _, _, _, rfl, T.cl_Bargain, T.na_Bargain_up, rfl, (ro_b0 ⟨_, rfl, ⟨fun hc2 => (wt_test (we_op (we_op (we_var rfl (we_var rfl (ro_i (cmc (by apply Bd.mono; (repeat (first | assumption | exact Bd.lit 64 (by decide +kernel) | exact Bd.lit 2000 (by decide +kernel) | apply Bd.neg | apply Bd.fdiv | apply Bd.mul | apply Bd.add2 | apply Bd.sub2)); decide) (by apply Bd.mono; (repeat (first | assumption | exact Bd.lit 64 (by decide +kernel) | exact Bd.lit 2000 (by decide +kernel) | apply Bd.neg | apply Bd.fdiv | apply Bd.mul | apply Bd.add2 | apply Bd.sub2)); decide)) (we_fld (we_var rfl ⟨_, _, _, _, rfl, T.cl_Bargain, T.na_Bargain_product, rfl, (ro_b0 ⟨_, rfl, ⟨fun hc3 => ?_, fun hc4 => ?_⟩⟩)⟩)))))))), fun hc5 => ⟨fun h => absurd h (by decide), fun _ => ?_⟩⟩⟩)⟩)))))), fun hc6 => ⟨fun h => absurd h (by decide), fun _ => ?_⟩⟩⟩)⟩)))))))
    · refine (ws_ret (we_tup (wa_cons (we_var rfl (wa_cons (we_var rfl (wa_nil ⟨Nat.le_of_ble_eq_true rfl, ?_⟩)))))))
      exact hk _ _ (hW (by rw [GoodW, hH]; exact ⟨of_decide_eq_true hc1, of_decide_eq_true hc2, of_decide_eq_true hc3⟩)).1 (hW (by rw [GoodW, hH]; exact ⟨of_decide_eq_true hc1, of_decide_eq_true hc2, of_decide_eq_true hc3⟩)).2
    · refine ws_next ?_
      exact ⟨⟨_, _, rfl, nx fun q => by rw [GoodW, hH] at q; exact of_decide_eq_false hc4 q.2.2⟩, rfl⟩
    · refine ws_next ?_
      exact ⟨⟨_, _, rfl, nx fun q => by rw [GoodW, hH] at q; exact of_decide_eq_false hc5 q.2.1⟩, rfl⟩
    · refine ws_next ?_
      exact ⟨⟨_, _, rfl, nx fun q => by rw [GoodW, hH] at q; exact of_decide_eq_false hc6 q.1⟩, rfl⟩
  rintro _ _ ⟨⟨o1, o2, rfl, g1, g2⟩, rfl⟩
  exact ws_ret (we_non (hn fun W H f e => (good W H f e).elim g1 g2))
def pr_Bargain_frame_by_costs (T : Tx K mg) : Pr := fun ds B k e => ∃ a u p w h : Int, ds = [bgD T a u p w h] ∧ Bg a u p w h ∧ BgS a u p w h ∧ Nat.gcd w.natAbs h.natAbs = 1 ∧ ∀ W H, CF a u p w h W H → k (t2 W H) B
theorem okD_Bargain_frame_by_costs (T : Tx K mg) : FnOk P w K mg base (L2.CX P w) 3 T.a_Bargain_frame_by_costs T.d_Bargain_frame_by_costs P_Bargain_frame_by_costs (spD K (pr_Bargain_frame_by_costs T)) := by
  refine T.F_Bargain_frame_by_costs.okX sc_Bargain_frame_by_costs (spD_len fun ds B k e h => by obtain ⟨a, u, p, w1, h1, rfl, b, z, hg, hk⟩ := h; rfl) (fun cdv A outer s H vs Q E hr h => ?_)
  have G_Bargain_frame_of_cost : FnOk P w K mg base (L2.CX P w) 1 _ _ _ _ := okD_Bargain_frame_of_cost T
  have G_Bargain_least_cost : FnOk P w K mg base (L2.CX P w) 2 _ _ _ _ := okD_Bargain_least_cost T
  have G_bezout : FnOk P w K mg base (L2.CX P w) 1 _ _ _ _ := okD_bezout T
  obtain ⟨G, ds, B, k, e, hs, hR, ⟨a, u, p, w1, h1, rfl, b, z, hg, hk⟩, hK, hX⟩ := h
  refine ⟨_, (pss_cons (ps_set (i := 1) sc_Bargain_frame_by_costs.nd rfl (.inl rfl) (pe_ix ix_tup (pe_call G_bezout (hr.mono (by decide)) (by rfl) T.g_bezout T.F_bezout.kp T.b_bezout .nil passL (pa_cons (pe_fld (pv 0) rfl) (pa_cons (pe_fld (pv 0) rfl) pa_nil))) pe_int (fun _ _ => rfl)))
 (pss_cons (ps_set (i := 2) sc_Bargain_frame_by_costs.nd rfl (.inl rfl) (pe_meth0 (pv 0) T.cl_Bargain T.M_Bargain_least_cost G_Bargain_least_cost (hr.mono (by decide)) T.b_Bargain_least_cost .nil passL))
 (pss_one (ps_while (passes_of rfl) (pt_val pe_bl)
 (pss_cons (ps_set (i := 3) sc_Bargain_frame_by_costs.nd rfl (.inl rfl) (pe_meth (pv 0) T.cl_Bargain T.M_Bargain_frame_of_cost G_Bargain_frame_of_cost (hr.mono (by decide)) T.b_Bargain_frame_of_cost .nil passL (pa_cons (pv 2) (pa_cons (pe_op op_mulW (pv 2) (pv 1)) pa_nil))))
 (pss_cons (ps_if (pt_cmp (pc_notN (pv 3)))
 (pss_one (ps_ret (pv 3)))
 pss_nil)
 (pss_one (ps_set (i := 2) sc_Bargain_frame_by_costs.nd rfl (.inl rfl) (pe_op op_add (pv 2) pe_int))))))))), run_body (ρ := [some (bgD T a u p w1 h1), none, none, none]) hs hR hK hX rfl ?_⟩
  have bw := z.bw
  have bh := z.bh
  obtain ⟨Wm, Hm, cm⟩ := CF.ex b
  obtain ⟨bC, pC⟩ := cm.bd b z
  refine ws_seq (ws_set (we_op (we_call (wa_cons (we_fld (we_var rfl ⟨_, _, _, _, rfl, T.cl_Bargain, T.na_Bargain_wide, rfl, (wa_cons (we_fld (we_var rfl ⟨_, _, _, _, rfl, T.cl_Bargain, T.na_Bargain_high, rfl, (wa_nil ⟨_, _, rfl, bw.mono (by decide), bh.mono (by decide), fun x y hxy hb => (we_int (ro_ixT rfl ?_))⟩)⟩)))⟩))))))
  obtain ⟨bx, _⟩ := hb 20 bw bh
  rw [hg] at hxy
  have e1 : w1 * x + h1 * y = 1 := by rw [Int.mul_comm w1, Int.mul_comm h1]; exact hxy
  refine ws_seq (ws_set (we_meth (we_var rfl ⟨_, _, rfl, by decide +kernel, (wa_nil ⟨a, u, p, w1, h1, rfl, b, z, fun c0 c0p hc0 => ?_⟩)⟩)))
  refine ws_while (fun n ρ' B' => (∃ c o, ρ' = [some (bgD T a u p w1 h1), some (.int x), some (.int c), o] ∧ 0 ≤ c ∧ c ≤ w1 * Wm + h1 * Hm ∧ (w1 * Wm + h1 * Hm - c).toNat = n) ∧ B = B') _ ⟨⟨_, _, rfl, c0p, hc0 _ _ cm.fr, rfl⟩, rfl⟩ ?_
  rintro n ρ' B' ⟨⟨c, o, rfl, c0, c1, rfl⟩, rfl⟩
  have bc : Bd 900 c := Bd.of_le (by omega) c1 bC
  refine wt_val (we_bl ⟨_, rfl, (fun _ => ?_), (fun h => nomatch h)⟩)
  refine ws_seq (ws_set (we_meth (we_var rfl ⟨_, _, rfl, by decide +kernel, wa_cons <| we_var rfl <| wa_cons <| we_op <| we_var rfl <| we_var rfl <| ro_i (cmc (by apply Bd.mono; (repeat (first | assumption | exact Bd.lit 64 (by decide +kernel) | exact Bd.lit 2000 (by decide +kernel) | apply Bd.neg | apply Bd.fdiv | apply Bd.mul | apply Bd.add2 | apply Bd.sub2)); decide) (by apply Bd.mono; (repeat (first | assumption | exact Bd.lit 64 (by decide +kernel) | exact Bd.lit 2000 (by decide +kernel) | apply Bd.neg | apply Bd.fdiv | apply Bd.mul | apply Bd.add2 | apply Bd.sub2)); decide)) <| wa_nil ⟨a, u, p, w1, h1, c, c * x, rfl, b, z, bc.mono (by decide), (by apply Bd.mono; (repeat (first | assumption | exact Bd.lit 64 (by decide +kernel) | exact Bd.lit 2000 (by decide +kernel) | apply Bd.neg | apply Bd.fdiv | apply Bd.mul | apply Bd.add2 | apply Bd.sub2)); decide), ⟨-(c * y), by grind⟩, ⟨x, y, e1⟩, fun W H f e => ?_, fun hn => ?_⟩⟩)))
  · refine ws_seq (ws_if (wt_val (we_notN (we_var rfl ⟨_, rfl, (fun _ => ws_ret (we_var rfl ?_)), (fun h => nomatch h)⟩))))
    exact hk W H ⟨f, fun W' H' f' => by have := cm.le _ _ f'; omega⟩
  · refine ws_seq (ws_if (wt_val (we_notN (we_var rfl ⟨_, rfl, (fun h => nomatch h), (fun _ => ws_next ?_)⟩))))
    have ne := hn _ _ cm.fr
    refine ws_set (we_op (we_var rfl (we_int (ro_i0 ?_))))
    exact ⟨_, by omega, ⟨_, _, rfl, by omega, by omega, rfl⟩, rfl⟩
end
end AW

set_option linter.all false
set_option maxRecDepth 100000
set_option maxHeartbeats 8000000
namespace AW
open PySem PySem.Spec PyProof.Rows L2 LamX Fewest
variable [Tbs]
section
variable {P : Program} {w : World} {K : PySem.W.Frag} {mg : Str → Option Value} {base : Heap}
def pr_Bargain_best (T : Tx K mg) : Pr := fun ds B k e => ∃ a u p w h : Int, ds = [bgD T a u p w h] ∧ Bg a u p w h ∧ BgS a u p w h ∧ Nat.gcd w.natAbs h.natAbs = 1 ∧ ∀ W H, CF a u p w h W H → k (t2 W H) B
theorem okD_Bargain_best (T : Tx K mg) : FnOk P w K mg base (L2.CX P w) 4 T.a_Bargain_best T.d_Bargain_best P_Bargain_best (spD K (pr_Bargain_best T)) := by
  refine T.F_Bargain_best.okX sc_Bargain_best (spD_len fun ds B k e h => by obtain ⟨a, u, p, w1, h1, rfl, b, z, hg, hk⟩ := h; rfl) (fun cdv A outer s H vs Q E hr h => ?_)
  have G_Bargain_frame_by_costs : FnOk P w K mg base (L2.CX P w) 3 _ _ _ _ := okD_Bargain_frame_by_costs T
  have G_Bargain_frame_by_widths : FnOk P w K mg base (L2.CX P w) 2 _ _ _ _ := okD_Bargain_frame_by_widths T
  obtain ⟨G, ds, B, k, e, hs, hR, ⟨a, u, p, w1, h1, rfl, b, z, hg, hk⟩, hK, hX⟩ := h
  refine ⟨_, (pss_cons (ps_set (i := 1) sc_Bargain_best.nd rfl (.inl rfl) (pe_callBfun cr_root (by rfl) T.mi_isqrt (pa_cons (pe_op op_fdivG (pe_op op_mulW (pe_fld (pv 0) rfl) (pe_fld (pv 0) rfl)) (pe_fld (pv 0) rfl)) pa_nil)))
 (pss_cons (ps_set (i := 2) sc_Bargain_best.nd rfl (.inl rfl) (pe_callB (call_min2 rfl) (by rfl) T.n_min (by decide +kernel) (pa_cons (pe_callB (call_max2 rfl) (by rfl) T.n_max (by decide +kernel) (pa_cons (pv 1) (pa_cons (pe_fld (pv 0) rfl) pa_nil))) (pa_cons (pe_fld (pv 0) rfl) pa_nil))))
 (pss_cons (ps_set (i := 3) sc_Bargain_best.nd rfl (.inl rfl) (pe_op op_mulW (pe_op op_mulW (pe_fld (pv 0) rfl) (pv 2)) (pv 2)))
 (pss_cons (ps_set (i := 4) sc_Bargain_best.nd rfl (.inl rfl) (pe_callB call_abs (by rfl) T.n_abs (by decide +kernel) (pa_cons (pe_op op_sub (pv 3) (pe_op op_mulW (pe_fld (pv 0) rfl) (pe_fld (pv 0) rfl))) pa_nil)))
 (pss_cons (ps_if (PW.pt (pw_or (pt_cmpR op_le (pe_op op_mulW (pe_fld (pv 0) rfl) (pv 2)) (pe_op op_mulW (pe_op op_mulW (pe_glob (v := .int 64) (by rfl) T.gc_MOST_WIDTHS ⟨_, rfl⟩) (pe_glob (v := .int 64) (by rfl) T.gc_MOST_WIDTHS ⟨_, rfl⟩)) (pe_fld (pv 0) rfl)) (nomark _)) (pw_or1 (pt_cmpR op_le (pv 3) (pe_op op_mulW (pe_glob (v := .int 64) (by rfl) T.gc_MOST_WIDTHS ⟨_, rfl⟩) (pv 4)) (nomark _)))))
 (pss_one (ps_ret (pe_meth (pv 0) T.cl_Bargain T.M_Bargain_frame_by_widths G_Bargain_frame_by_widths (hr.mono (by decide)) T.b_Bargain_frame_by_widths .nil passL (pa_cons (pv 2) pa_nil))))
 pss_nil)
 (pss_one (ps_ret (pe_meth0 (pv 0) T.cl_Bargain T.M_Bargain_frame_by_costs G_Bargain_frame_by_costs (hr.mono (by decide)) T.b_Bargain_frame_by_costs .nil passL)))))))), run_body (ρ := [some (bgD T a u p w1 h1), none, none, none, none]) hs hR hK hX rfl ?_⟩
  have ba := z.ba
  have bu := z.bu
  have bw := z.bw
  have bh := z.bh
  have bp := z.bp
  have w0 := b.w0
  have h0 := b.h0
  have hp0 := Int.mul_pos b.h0 b.p0
  have q := fdiv_bd (n := h1 * p) w0
  have q0 : 0 ≤ (h1 * p).fdiv w1 := by
    refine Int.le_of_not_gt fun g => ?_
    have : w1 * ((h1 * p).fdiv w1 + 1) ≤ 0 := Int.mul_nonpos_of_nonneg_of_nonpos (by omega) (by omega)
    have e : w1 * ((h1 * p).fdiv w1 + 1) = w1 * (h1 * p).fdiv w1 + w1 := by grind
    omega
  have bq : Bd 12000 ((h1 * p).fdiv w1) := (by apply Bd.mono; (repeat (first | assumption | exact Bd.lit 64 (by decide +kernel) | exact Bd.lit 2000 (by decide +kernel) | apply Bd.neg | apply Bd.fdiv | apply Bd.mul | apply Bd.add2 | apply Bd.sub2)); decide)
  refine ws_seq (ws_set (we_rootB (wa_cons (we_op (we_op (we_fld (we_var rfl ⟨_, _, _, _, rfl, T.cl_Bargain, T.na_Bargain_high, rfl, (we_fld (we_var rfl ⟨_, _, _, _, rfl, T.cl_Bargain, T.na_Bargain_product, rfl, (ro_i (cmc (by apply Bd.mono; (repeat (first | assumption | exact Bd.lit 64 (by decide +kernel) | exact Bd.lit 2000 (by decide +kernel) | apply Bd.neg | apply Bd.fdiv | apply Bd.mul | apply Bd.add2 | apply Bd.sub2)); decide) (by apply Bd.mono; (repeat (first | assumption | exact Bd.lit 64 (by decide +kernel) | exact Bd.lit 2000 (by decide +kernel) | apply Bd.neg | apply Bd.fdiv | apply Bd.mul | apply Bd.add2 | apply Bd.sub2)); decide)) (we_fld (we_var rfl ⟨_, _, _, _, rfl, T.cl_Bargain, T.na_Bargain_wide, rfl, (ro_i ⟨by omega, lg (by apply Bd.mono; (repeat (first | assumption | exact Bd.lit 64 (by decide +kernel) | exact Bd.lit 2000 (by decide +kernel) | apply Bd.neg | apply Bd.fdiv | apply Bd.mul | apply Bd.add2 | apply Bd.sub2)); decide)⟩ (wa_nil ⟨_, rfl, q0, bq, fun r hr => ?_⟩))⟩)))⟩))⟩)))))))
  obtain ⟨r0, r1, r2⟩ := hr
  refine ws_seq (ws_set (we_min2 (wa_cons (we_max2 (wa_cons (we_var rfl (wa_cons (we_fld (we_var rfl ⟨_, _, _, _, rfl, T.cl_Bargain, T.na_Bargain_narrowest, rfl, (wa_nil ⟨_, _, rfl, (wa_cons (we_fld (we_var rfl ⟨_, _, _, _, rfl, T.cl_Bargain, T.na_Bargain_widest, rfl, (wa_nil ⟨_, _, rfl, ?_⟩)⟩)))⟩)⟩)))))))))
  rw [mx_max, mn_min]
  have s0 := (stt_in (a := a) (u := u) (P := p) (w := w1) (h := h1) (r := r)).1
  have s1 := (stt_in (a := a) (u := u) (P := p) (w := w1) (h := h1) (r := r)).2
  have su : ∀ W, stt a u p w1 h1 r < W → W ≤ wid a u p → h1 * p ≤ w1 * W * W := fun W g1 g2 => stt_up w0 r0 (by
    have m := Int.mul_le_mul_of_nonneg_left (show (h1 * p).fdiv w1 + 1 ≤ (r + 1) * (r + 1) by omega) (Int.le_of_lt w0)
    have e : w1 * ((h1 * p).fdiv w1 + 1) = w1 * (h1 * p).fdiv w1 + w1 := by grind
    omega) g1 g2
  have sd : ∀ W, nar a ≤ W → W < stt a u p w1 h1 r → w1 * W * W ≤ h1 * p := fun W g1 g2 => stt_down w0 (by
    have m := Int.mul_le_mul_of_nonneg_left r1 (Int.le_of_lt w0)
    omega) (by unfold nar at g1; omega) g2 g1
  rw [show min (max r (nar a)) (wid a u p) = stt a u p w1 h1 r from rfl]
  have n0 : 1 ≤ nar a := by unfold nar; omega
  have bs := z.bw2 b (by omega) s1
  generalize stt a u p w1 h1 r = s at *
  refine ws_seq (ws_set (we_op (we_op (we_fld (we_var rfl ⟨_, _, _, _, rfl, T.cl_Bargain, T.na_Bargain_wide, rfl, (we_var rfl (ro_i (cmc (by apply Bd.mono; (repeat (first | assumption | exact Bd.lit 64 (by decide +kernel) | exact Bd.lit 2000 (by decide +kernel) | apply Bd.neg | apply Bd.fdiv | apply Bd.mul | apply Bd.add2 | apply Bd.sub2)); decide) (by apply Bd.mono; (repeat (first | assumption | exact Bd.lit 64 (by decide +kernel) | exact Bd.lit 2000 (by decide +kernel) | apply Bd.neg | apply Bd.fdiv | apply Bd.mul | apply Bd.add2 | apply Bd.sub2)); decide)) (we_var rfl (ro_i (cmc (by apply Bd.mono; (repeat (first | assumption | exact Bd.lit 64 (by decide +kernel) | exact Bd.lit 2000 (by decide +kernel) | apply Bd.neg | apply Bd.fdiv | apply Bd.mul | apply Bd.add2 | apply Bd.sub2)); decide) (by apply Bd.mono; (repeat (first | assumption | exact Bd.lit 64 (by decide +kernel) | exact Bd.lit 2000 (by decide +kernel) | apply Bd.neg | apply Bd.fdiv | apply Bd.mul | apply Bd.add2 | apply Bd.sub2)); decide)) ?_))))⟩)))))
  refine ws_seq (ws_set (we_abs (wa_cons (we_op (we_var rfl (we_op (we_fld (we_var rfl ⟨_, _, _, _, rfl, T.cl_Bargain, T.na_Bargain_high, rfl, (we_fld (we_var rfl ⟨_, _, _, _, rfl, T.cl_Bargain, T.na_Bargain_product, rfl, (ro_i (cmc (by apply Bd.mono; (repeat (first | assumption | exact Bd.lit 64 (by decide +kernel) | exact Bd.lit 2000 (by decide +kernel) | apply Bd.neg | apply Bd.fdiv | apply Bd.mul | apply Bd.add2 | apply Bd.sub2)); decide) (by apply Bd.mono; (repeat (first | assumption | exact Bd.lit 64 (by decide +kernel) | exact Bd.lit 2000 (by decide +kernel) | apply Bd.neg | apply Bd.fdiv | apply Bd.mul | apply Bd.add2 | apply Bd.sub2)); decide)) (ro_i0 (wa_nil ⟨_, rfl, ?_⟩)))⟩))⟩))))))))
  have br : Bd 2700 (w1 * s * s - h1 * p) := (by apply Bd.mono; (repeat (first | assumption | exact Bd.lit 64 (by decide +kernel) | exact Bd.lit 2000 (by decide +kernel) | apply Bd.neg | apply Bd.fdiv | apply Bd.mul | apply Bd.add2 | apply Bd.sub2)); decide)
  have br2 : Bd 2700 (if w1 * s * s - h1 * p < 0 then -(w1 * s * s - h1 * p) else w1 * s * s - h1 * p) := by unfold Bd at *; split <;> omega
  refine ws_seq (ws_if (wt_or (wt_test (we_op (we_op (we_fld (we_var rfl ⟨_, _, _, _, rfl, T.cl_Bargain, T.na_Bargain_high, rfl, (we_var rfl (ro_i (cmc (by apply Bd.mono; (repeat (first | assumption | exact Bd.lit 64 (by decide +kernel) | exact Bd.lit 2000 (by decide +kernel) | apply Bd.neg | apply Bd.fdiv | apply Bd.mul | apply Bd.add2 | apply Bd.sub2)); decide) (by apply Bd.mono; (repeat (first | assumption | exact Bd.lit 64 (by decide +kernel) | exact Bd.lit 2000 (by decide +kernel) | apply Bd.neg | apply Bd.fdiv | apply Bd.mul | apply Bd.add2 | apply Bd.sub2)); decide)) (we_op (we_op (we_int (we_int (ro_i (cmc (by apply Bd.mono; (repeat (first | assumption | exact Bd.lit 64 (by decide +kernel) | exact Bd.lit 2000 (by decide +kernel) | apply Bd.neg | apply Bd.fdiv | apply Bd.mul | apply Bd.add2 | apply Bd.sub2)); decide) (by apply Bd.mono; (repeat (first | assumption | exact Bd.lit 64 (by decide +kernel) | exact Bd.lit 2000 (by decide +kernel) | apply Bd.neg | apply Bd.fdiv | apply Bd.mul | apply Bd.add2 | apply Bd.sub2)); decide)) (we_fld (we_var rfl ⟨_, _, _, _, rfl, T.cl_Bargain, T.na_Bargain_wide, rfl, (ro_i (cmc (by apply Bd.mono; (repeat (first | assumption | exact Bd.lit 64 (by decide +kernel) | exact Bd.lit 2000 (by decide +kernel) | apply Bd.neg | apply Bd.fdiv | apply Bd.mul | apply Bd.add2 | apply Bd.sub2)); decide) (by apply Bd.mono; (repeat (first | assumption | exact Bd.lit 64 (by decide +kernel) | exact Bd.lit 2000 (by decide +kernel) | apply Bd.neg | apply Bd.fdiv | apply Bd.mul | apply Bd.add2 | apply Bd.sub2)); decide)) (ro_b0 ⟨_, rfl, ⟨fun hc1 => ⟨fun _ => ?_, fun h => absurd h (by decide)⟩, fun hc2 => (wt_test (we_op (we_var rfl (we_op (we_int (we_var rfl (ro_i (cmc (by apply Bd.mono; (repeat (first | assumption | exact Bd.lit 64 (by decide +kernel) | exact Bd.lit 2000 (by decide +kernel) | apply Bd.neg | apply Bd.fdiv | apply Bd.mul | apply Bd.add2 | apply Bd.sub2)); decide) (by apply Bd.mono; (repeat (first | assumption | exact Bd.lit 64 (by decide +kernel) | exact Bd.lit 2000 (by decide +kernel) | apply Bd.neg | apply Bd.fdiv | apply Bd.mul | apply Bd.add2 | apply Bd.sub2)); decide)) (ro_b0 ⟨_, rfl, ⟨fun hc3 => ?_, fun hc4 => ?_⟩⟩))))))))⟩⟩))⟩)))))))))⟩)))))))
  · refine (ws_ret (we_meth (we_var rfl ⟨_, _, rfl, by decide +kernel, (wa_cons (we_var rfl (wa_nil ⟨a, u, p, w1, h1, _, rfl, b, z, s0, s1, su, sd, hk⟩)))⟩)))
    
  · refine (ws_ret (we_meth (we_var rfl ⟨_, _, rfl, by decide +kernel, (wa_cons (we_var rfl (wa_nil ⟨a, u, p, w1, h1, _, rfl, b, z, s0, s1, su, sd, hk⟩)))⟩)))
    
  · refine ws_next ?_
    refine (ws_ret (we_meth (we_var rfl ⟨_, _, rfl, by decide +kernel, (wa_nil ⟨a, u, p, w1, h1, rfl, b, z, hg, hk⟩)⟩)))
    
def pr_cheapest_frame (T : Tx K mg) : Pr := fun ds B k e => ∃ a u p w h : Int, ds = [.int a, .int u, .int p, .int w, .int h] ∧ 0 ≤ a ∧ 0 ≤ u ∧ 0 < w ∧ 0 < h ∧ BgS a u p w h ∧ ∀ W H, CF a u p w h W H → k (t2 W H) B
theorem okD_cheapest_frame (T : Tx K mg) : FnOk P w K mg base (L2.CX P w) 5 T.a_cheapest_frame T.d_cheapest_frame P_cheapest_frame (spD K (pr_cheapest_frame T)) := by
  refine T.F_cheapest_frame.okX sc_cheapest_frame (spD_len fun ds B k e h => by obtain ⟨a, u, p, w1, h1, rfl, a0, u0, w0, h0, z, hk⟩ := h; rfl) (fun cdv A outer s H vs Q E hr h => ?_)
  have G_Bargain_best : FnOk P w K mg base (L2.CX P w) 4 _ _ _ _ := okD_Bargain_best T
  have G_Bargain_init : FnOk P w K mg base (L2.CX P w) 3 _ _ _ _ := okD_Bargain_init T
  obtain ⟨G, ds, B, k, e, hs, hR, ⟨a, u, p, w1, h1, rfl, a0, u0, w0, h0, z, hk⟩, hK, hX⟩ := h
  refine ⟨_, (pss_cons (ps_if (pt_cmpR op_ge (pe_op op_mulW (pv 0) (pv 1)) (pv 2) (nomark _))
 (pss_one (ps_ret (pe_tup (pa_cons (pv 0) (pa_cons (pv 1) pa_nil)))))
 pss_nil)
 (pss_cons (ps_if (pt_cmpR op_lt (pv 3) (pv 4) (nomark _))
 (pss_cons (ps_asg (pe_meth0 (pe_make T.M_Bargain G_Bargain_init (hr.mono (by decide)) (by rfl) T.g_C_Bargain T.b_Bargain_init .nil passL (pa_cons (pv 1) (pa_cons (pv 0) (pa_cons (pv 2) (pa_cons (pv 4) (pa_cons (pv 3) pa_nil)))))) T.cl_Bargain T.M_Bargain_best G_Bargain_best (hr.mono (by decide)) T.b_Bargain_best .nil passL) (pg_tup rfl (pgs_cons (pg_name (i := 5) sc_cheapest_frame.nd rfl (.inl rfl)) (pgs_cons (pg_name (i := 6) sc_cheapest_frame.nd rfl (.inl rfl)) pgs_nil))))
 (pss_one (ps_ret (pe_tup (pa_cons (pv 6) (pa_cons (pv 5) pa_nil))))))
 pss_nil)
 (pss_one (ps_ret (pe_meth0 (pe_make T.M_Bargain G_Bargain_init (hr.mono (by decide)) (by rfl) T.g_C_Bargain T.b_Bargain_init .nil passL (pa_cons (pv 0) (pa_cons (pv 1) (pa_cons (pv 2) (pa_cons (pv 3) (pa_cons (pv 4) pa_nil)))))) T.cl_Bargain T.M_Bargain_best G_Bargain_best (hr.mono (by decide)) T.b_Bargain_best .nil passL))))), run_body (ρ := [some (.int a), some (.int u), some (.int p), some (.int w1), some (.int h1), none, none]) hs hR hK hX rfl ?_⟩
  have ba := z.ba
  have bu := z.bu
  have zz : BgS u a p h1 w1 := ⟨z.bu, z.ba, z.bp, z.bh, z.bw⟩
  refine ws_seq (ws_if (wt_test (we_op (we_op (we_var rfl (we_var rfl (ro_i (cmc (by apply Bd.mono; (repeat (first | assumption | exact Bd.lit 64 (by decide +kernel) | exact Bd.lit 2000 (by decide +kernel) | apply Bd.neg | apply Bd.fdiv | apply Bd.mul | apply Bd.add2 | apply Bd.sub2)); decide) (by apply Bd.mono; (repeat (first | assumption | exact Bd.lit 64 (by decide +kernel) | exact Bd.lit 2000 (by decide +kernel) | apply Bd.neg | apply Bd.fdiv | apply Bd.mul | apply Bd.add2 | apply Bd.sub2)); decide)) (we_var rfl (ro_b0 ⟨_, rfl, ⟨fun hc1 => ?_, fun hc2 => ?_⟩⟩)))))))))
  · refine (ws_ret (we_tup (wa_cons (we_var rfl (wa_cons (we_var rfl (wa_nil ⟨Nat.le_of_ble_eq_true rfl, ?_⟩)))))))
    exact hk _ _ (CF.corner (by omega) (by omega) (of_decide_eq_true hc1))
  · refine ws_next ?_
    refine ws_seq (ws_if (wt_test (we_op (we_var rfl (we_var rfl (ro_b0 ⟨_, rfl, ⟨fun hc5 => ?_, fun hc6 => ?_⟩⟩))))))
    · refine ws_seq (ws_asg (we_meth (we_make (wa_cons (we_var rfl (wa_cons (we_var rfl (wa_cons (we_var rfl (wa_cons (we_var rfl (wa_cons (we_var rfl (wa_nil ⟨_, _, _, _, _, rfl, (by refine ⟨by assumption, by assumption, ?_, by assumption, by assumption⟩; have := of_decide_eq_false hc2; first | omega | (rw [Int.mul_comm]; omega)), (by first | exact z | exact zz), fun w2 h2 g g0 ew eh hg b2 z2 => ⟨_, _, rfl, by decide +kernel, (wa_nil ⟨_, _, _, _, _, rfl, b2, z2, hg, fun W H cf => (wg_tup rfl (wgs_cons (wg_name (wgs_cons (wg_name (wgs_nil ?_))))))⟩)⟩⟩))))))))))))))
      refine (ws_ret (we_tup (wa_cons (we_var rfl (wa_cons (we_var rfl (wa_nil ⟨Nat.le_of_ble_eq_true rfl, ?_⟩)))))))
      exact hk _ _ (CF.swap (by rw [ew, eh]; exact cf.scale g0))
    · refine ws_next ?_
      refine (ws_ret (we_meth (we_make (wa_cons (we_var rfl (wa_cons (we_var rfl (wa_cons (we_var rfl (wa_cons (we_var rfl (wa_cons (we_var rfl (wa_nil ⟨_, _, _, _, _, rfl, (by refine ⟨by assumption, by assumption, ?_, by assumption, by assumption⟩; have := of_decide_eq_false hc2; first | omega | (rw [Int.mul_comm]; omega)), (by first | exact z | exact zz), fun w2 h2 g g0 ew eh hg b2 z2 => ⟨_, _, rfl, by decide +kernel, (wa_nil ⟨_, _, _, _, _, rfl, b2, z2, hg, fun W H cf => ?_⟩)⟩⟩))))))))))))))
      exact hk _ _ (by rw [ew, eh]; exact cf.scale g0)
end
end AW

set_option linter.all false
set_option maxHeartbeats 2000000
namespace AW
open PySem PySem.Spec PyProof.Rows L2 Fewest
variable [Tbs]
def cnt (c : Str) (ps : List Rn) : Int := (ps.map fun p => if p.1 = c then p.2 else 0).sum
theorem cnt_nil (c : Str) : cnt c [] = 0 := rfl
theorem cnt_cons (c : Str) (p : Rn) (ps : List Rn) : cnt c (p :: ps) = (if p.1 = c then p.2 else 0) + cnt c ps := by simp [cnt]
theorem cnt_append (c : Str) (ps qs : List Rn) : cnt c (ps ++ qs) = cnt c ps + cnt c qs := by simp [cnt]
theorem cnt_nn {c : Str} : ∀ {ps : List Rn}, GoodR ps → 0 ≤ cnt c ps
  | [], _ => Int.le_refl _
  | p :: ps, h => by
    have h1 := cnt_nn (c := c) h.tail
    have h2 := h.head.2
    rw [cnt_cons]
    split <;> omega
theorem cnt_rStep (c : Str) {s : List Rn} {p : Rn} (hp : 0 ≤ p.2) : cnt c (rStep s p) = cnt c s + cnt c [p] := by
  have e1 : cnt c [p] = if p.1 = c then p.2 else 0 := by rw [cnt_cons, cnt_nil]; omega
  by_cases z : p.2 = 0
  · rw [rStep_zero _ _ z, e1]; split <;> omega
  have hp : 0 < p.2 := by omega
  rcases List.eq_nil_or_concat s with e0 | ⟨r, q, e0⟩
  · rw [e0, rStep_nil _ hp, cnt_nil]; omega
  · rw [List.concat_eq_append] at e0
    by_cases e : q.1 = p.1
    · rw [e0, rStep_same r q p hp e, cnt_append, cnt_append, e1, cnt_cons, cnt_cons, cnt_nil, e]
      show _ + ((if p.1 = c then q.2 + p.2 else 0) + 0) = _
      split <;> omega
    · rw [e0, rStep_other r q p hp e, cnt_append]
theorem cnt_run (c : Str) : ∀ {ps s : List Rn}, GoodR ps → cnt c (ps.foldl rStep s) = cnt c s + cnt c ps
  | [], s, _ => by simp [cnt_nil]
  | p :: ps, s, h => by
    have e : cnt c (p :: ps) = cnt c [p] + cnt c ps := cnt_append c [p] ps
    rw [List.foldl_cons, cnt_run c h.tail, cnt_rStep c h.head.2, e]
    omega
theorem cnt_join {ps : List Rn} (h : GoodR ps) (c : Str) : cnt c (joinF ps) = cnt c ps := by
  rw [joinF_runs h]
  unfold runsF
  rw [cnt_run c h, cnt_nil]; omega
theorem str_ne : ¬ (("e" : Str) = "n") ∧ ¬ (("e" : Str) = "w") ∧ ¬ (("e" : Str) = "s") ∧ ¬ (("n" : Str) = "w") ∧ ¬ (("n" : Str) = "s") ∧ ¬ (("w" : Str) = "s") := by decide +kernel
theorem cnt_pos : ∀ {ps : List Rn}, GoodR ps → (posF ps).1 = cnt "e" ps - cnt "w" ps ∧ (posF ps).2.1 = cnt "n" ps - cnt "s" ps
  | [], _ => ⟨rfl, rfl⟩
  | p :: ps, h => by
    obtain ⟨h1, h2⟩ := cnt_pos h.tail
    obtain ⟨c, t⟩ := p
    obtain ⟨n1, n2, n3, n4, n5, n6⟩ := str_ne
    rw [posF_cons, posF_run, cnt_cons, cnt_cons, cnt_cons, cnt_cons]
    show dx c * t + (posF ps).1 = _ ∧ dy c * t + (posF ps).2.1 = _
    rw [h1, h2]
    have d : (dx "e" = 1 ∧ dy "e" = 0) ∧ (dx "w" = -1 ∧ dy "w" = 0) ∧ (dx "n" = 0 ∧ dy "n" = 1) ∧ (dx "s" = 0 ∧ dy "s" = -1) := by decide +kernel
    rcases mem_enws h.head.1 with e | e | e | e
    all_goals
      have e : c = _ := e
      subst e
    · rw [d.1.1, d.1.2]
      simp only [n1, n2, n3, if_true, if_false]
      omega
    · rw [d.2.2.1.1, d.2.2.1.2]
      simp only [Ne.symm n1, n4, n5, if_true, if_false]
      omega
    · rw [d.2.1.1, d.2.1.2]
      simp only [Ne.symm n2, Ne.symm n4, n6, if_true, if_false]
      omega
    · rw [d.2.2.2.1, d.2.2.2.2]
      simp only [Ne.symm n3, Ne.symm n5, Ne.symm n6, if_true, if_false]
      omega
/-- the steps one by one -/
def unR (l : List Str) : List Rn := l.map fun c => (c, 1)
theorem un_good {ps : List Rn} (hg : GoodR ps) : GoodR (unR (expR ps)) := fun q hq => by
  obtain ⟨c, hc, rfl⟩ := List.mem_map.mp hq
  unfold expR at hc
  obtain ⟨l, hl, hc⟩ := List.mem_flatten.mp hc
  obtain ⟨p, hp, rfl⟩ := List.mem_map.mp hl
  rw [(List.mem_replicate.mp hc).2]
  exact ⟨(hg p hp).1, by show (0 : Int) ≤ 1; decide⟩
theorem un_same {ps : List Rn} (hg : GoodR ps) : joinF (unR (expR ps)) = joinF ps := by
  rw [joinF_exp hg, joinF_runs (un_good hg)]
  rfl
theorem un_pos {ps : List Rn} (hg : GoodR ps) : posF (unR (expR ps)) = posF ps ∧ ∀ c, cnt c (unR (expR ps)) = cnt c ps := by
  refine ⟨by rw [← joinF_pos (un_good hg), un_same hg, joinF_pos hg], fun c => by rw [← cnt_join (un_good hg), un_same hg, cnt_join hg]⟩
abbrev lotP (ps : List Rn) : Int := max (cnt "e" ps) (cnt "w" ps)
abbrev lotQ (ps : List Rn) : Int := max (cnt "n" ps) (cnt "s" ps)
/-- one step more, along x -/
theorem box_x {x y u p q E W : Int} (d : Int) (hd : d = 1 ∨ d = -1) (hx : x = E - W) (hp : p = max E W) (hE : 0 ≤ E) (hW : 0 ≤ W) (h : Box (ab x) (ab y) (ab u) p q) :
    Box (ab (x + d)) (ab y) (ab (u - d * y)) (max (E + (if d = 1 then 1 else 0)) (W + (if d = 1 then 0 else 1))) q := by
  have y0 : 0 ≤ ab y := by unfold ab; omega
  have hu : ab (u - d * y) ≤ ab u + ab y := by
    rcases hd with rfl | rfl
    · unfold ab; omega
    · unfold ab; omega
  by_cases out : (d = 1 ∧ 0 ≤ x) ∨ (d = -1 ∧ x ≤ 0)
  · have e1 : ab (x + d) = ab x + 1 := by unfold ab; omega
    have e2 : max (E + (if d = 1 then 1 else 0)) (W + (if d = 1 then 0 else 1)) = p + 1 := by
      rcases hd with rfl | rfl <;> simp <;> omega
    rw [e1, e2]
    exact lip_up y0 h hu
  · have e1 : ab (x + d) = ab x - 1 := by unfold ab; omega
    have e2 : max (E + (if d = 1 then 1 else 0)) (W + (if d = 1 then 0 else 1)) = p := by
      rcases hd with rfl | rfl <;> simp <;> omega
    rw [e1, e2]
    exact lip_down h hu
theorem box_un : ∀ (l : List Str), (∀ c ∈ l, c ∈ chS "enws") → Box (ab (posF (unR l.reverse)).1) (ab (posF (unR l.reverse)).2.1) (ab (2 * (posF (unR l.reverse)).2.2 - (posF (unR l.reverse)).1 * (posF (unR l.reverse)).2.1)) (lotP (unR l.reverse)) (lotQ (unR l.reverse))
  | [], _ => ⟨by decide, by decide, by decide⟩
  | c :: l, h => by
    have ih := box_un l fun d hd => h d (List.mem_cons_of_mem _ hd)
    have gl : GoodR (unR l.reverse) := fun q hq => by
      obtain ⟨d, hd, rfl⟩ := List.mem_map.mp hq
      exact ⟨h d (List.mem_cons_of_mem _ (List.mem_reverse.mp hd)), by show (0 : Int) ≤ 1; decide⟩
    obtain ⟨cp1, cp2⟩ := cnt_pos gl
    have n1 := cnt_nn (c := "e") gl
    have n2 := cnt_nn (c := "w") gl
    have n3 := cnt_nn (c := "n") gl
    have n4 := cnt_nn (c := "s") gl
    have er : unR (c :: l).reverse = unR l.reverse ++ [(c, 1)] := by simp [unR]
    rw [er]
    unfold lotP lotQ at *
    rw [posF_append, posF_run, cnt_append, cnt_append, cnt_append, cnt_append]
    have e1 : ∀ k : Str, cnt k [(c, (1 : Int))] = if c = k then 1 else 0 := fun k => by rw [cnt_cons, cnt_nil]; show (if c = k then (1 : Int) else 0) + 0 = _; omega
    rw [e1, e1, e1, e1]
    generalize posF (unR l.reverse) = s at *
    obtain ⟨x, y, a⟩ := s
    generalize cnt "e" (unR l.reverse) = E at *
    generalize cnt "w" (unR l.reverse) = Wt at *
    generalize cnt "n" (unR l.reverse) = N at *
    generalize cnt "s" (unR l.reverse) = S at *
    obtain ⟨m1, m2, m3, m4, m5, m6⟩ := str_ne
    have d : (dx "e" = 1 ∧ dy "e" = 0) ∧ (dx "w" = -1 ∧ dy "w" = 0) ∧ (dx "n" = 0 ∧ dy "n" = 1) ∧ (dx "s" = 0 ∧ dy "s" = -1) := by decide +kernel
    have ih : Box (ab x) (ab y) (ab (2 * a - x * y)) (max E Wt) (max N S) := ih
    have cp1 : x = E - Wt := cp1
    have cp2 : y = N - S := cp2
    show Box (ab (x + dx c * 1)) (ab (y + dy c * 1)) (ab (2 * (a + 0 + x * (dy c * 1)) - (x + dx c * 1) * (y + dy c * 1))) _ _
    rcases mem_enws (h c (List.mem_cons_self ..)) with e | e | e | e
    all_goals subst e
    · rw [d.1.1, d.1.2]
      simp only [m1, m2, m3, if_true, if_false]
      have := box_x 1 (.inl rfl) cp1 rfl n1 n2 ih
      simp only [if_true, Int.one_mul, Int.add_zero] at this
      rw [show 2 * (a + 0 + x * (0 * 1)) - (x + 1 * 1) * (y + 0 * 1) = 2 * a - x * y - y by grind, show y + 0 * 1 = y by omega, show x + 1 * 1 = x + 1 by omega, show N + 0 = N by omega, show S + 0 = S by omega, show Wt + 0 = Wt by omega]
      exact this
    · rw [d.2.2.1.1, d.2.2.1.2]
      simp only [Ne.symm m1, m4, m5, if_true, if_false]
      have := box_x 1 (.inl rfl) cp2 rfl n3 n4 ih.swap
      simp only [if_true, Int.one_mul, Int.add_zero] at this
      have this := this.swap
      rw [show x + 0 * 1 = x by omega, show y + 1 * 1 = y + 1 by omega, show E + 0 = E by omega, show S + 0 = S by omega, show Wt + 0 = Wt by omega]
      have e2 : 2 * (a + 0 + x * (1 * 1)) - x * (y + 1) = -(-(2 * a - x * y) - x) := by grind
      rw [e2, ab_neg]
      have b2 := box_x 1 (.inl rfl) cp2 rfl n3 n4 (u := -(2 * a - x * y)) (y := x) (q := max E Wt) (by rw [ab_neg]; exact ih.swap)
      simp only [if_true, Int.one_mul, Int.add_zero] at b2
      exact b2.swap
    · rw [d.2.1.1, d.2.1.2]
      simp only [Ne.symm m2, Ne.symm m4, m6, if_true, if_false]
      have := box_x (-1) (.inr rfl) cp1 rfl n1 n2 ih
      rw [if_neg (by decide), if_neg (by decide)] at this
      rw [show 2 * (a + 0 + x * (0 * 1)) - (x + -1 * 1) * (y + 0 * 1) = 2 * a - x * y - -1 * y by grind, show y + 0 * 1 = y by omega, show x + -1 * 1 = x + -1 by omega, show N + 0 = N by omega, show S + 0 = S by omega]
      exact this
    · rw [d.2.2.2.1, d.2.2.2.2]
      simp only [Ne.symm m3, Ne.symm m5, Ne.symm m6, if_true, if_false]
      have b2 := box_x (-1) (.inr rfl) cp2 rfl n3 n4 (u := -(2 * a - x * y)) (y := x) (q := max E Wt) (by rw [ab_neg]; exact ih.swap)
      rw [if_neg (by decide), if_neg (by decide)] at b2
      rw [show x + 0 * 1 = x by omega, show y + -1 * 1 = y + -1 by omega, show E + 0 = E by omega, show Wt + 0 = Wt by omega]
      have e2 : 2 * (a + 0 + x * (-1 * 1)) - x * (y + -1) = -(-(2 * a - x * y) - -1 * x) := by grind
      rw [e2, ab_neg]
      exact b2.swap
/-- every order of the steps keeps within the box of the lot -/
theorem box_walk {ps : List Rn} (hg : GoodR ps) : Box (ab (posF ps).1) (ab (posF ps).2.1) (ab (2 * (posF ps).2.2 - (posF ps).1 * (posF ps).2.1)) (lotP ps) (lotQ ps) := by
  have h := box_un (expR ps).reverse fun c hc => by
    have := un_good hg (c, 1) (List.mem_map_of_mem (List.mem_reverse.mp hc))
    exact this.1
  rw [List.reverse_reverse] at h
  obtain ⟨e1, e2⟩ := un_pos hg
  unfold lotP lotQ at *
  rw [e1, e2, e2, e2, e2] at h
  exact h
theorem lot_in {a z m : Int} : ab (2 * a - z) + ab z ≤ 2 * m ↔ max 0 z - m ≤ a ∧ a ≤ m - max 0 (-z) := by unfold ab; omega
theorem cnt_climb {W H A : Int} {e n : Str} (hne : e ≠ n) (hH : 0 ≤ H) (k : Str) : cnt k (climbF W H A e n) = (if e = k then W else 0) + (if n = k then H else 0) := by
  unfold climbF
  split
  · rename_i z
    rw [cnt_cons, cnt_nil]
    show (if e = k then W else 0) + 0 = _
    rw [z]
    split <;> split <;> omega
  · simp only [cnt_cons, cnt_nil]
    generalize (if W - A.fdiv H < 1 then W - A.fdiv H else 1) = b
    by_cases h1 : e = k
    · subst h1
      simp only [if_true, if_neg (Ne.symm hne)]
      omega
    · by_cases h2 : n = k
      · subst h2
        simp only [if_true, if_neg hne]
        omega
      · simp only [if_neg h1, if_neg h2]
        omega
/-- the walk around the lot's box has the lot's steps -/
theorem frame_cnt {E N Wt S a : Int} (hE : 0 ≤ E) (hN : 0 ≤ N) (hW : 0 ≤ Wt) (hS : 0 ≤ S) :
    let f := frameF (E - Wt, N - S, a) (max E Wt) (max N S)
    cnt "e" f = E ∧ cnt "n" f = N ∧ cnt "w" f = Wt ∧ cnt "s" f = S := by
  intro f
  obtain ⟨m1, m2, m3, m4, m5, m6⟩ := str_ne
  have gen : ∀ k : Str, cnt k f = (if eL (decide (E - Wt < 0)) "e" "w" = k then max E Wt - ab (E - Wt) else 0) + (if eL (decide (E - Wt < 0)) "w" "e" = k then max E Wt else 0) + (if eL (decide (N - S < 0)) "s" "n" = k then max N S else 0) + (if eL (decide (N - S < 0)) "n" "s" = k then max N S - ab (N - S) else 0) := fun k => by
    have ne : eL (decide (E - Wt < 0)) "w" "e" ≠ eL (decide (N - S < 0)) "s" "n" := by
      cases decide (E - Wt < 0) <;> cases decide (N - S < 0) <;> decide +kernel
    show cnt k (frameF (E - Wt, N - S, a) (max E Wt) (max N S)) = _
    unfold frameF
    split
    · rw [cnt_append, cnt_append, cnt_climb (Ne.symm ne) (by omega), cnt_cons, cnt_cons, cnt_nil]
      show (if eL (decide (E - Wt < 0)) "e" "w" = k then max E Wt - ab (E - Wt) else 0) + 0 + ((if _ = k then max N S else 0) + (if _ = k then max E Wt else 0) + ((if eL (decide (N - S < 0)) "n" "s" = k then max N S - ab (N - S) else 0) + 0)) = _
      omega
    · rw [cnt_append, cnt_append, cnt_climb ne (by omega), cnt_cons, cnt_cons, cnt_nil]
      show (if eL (decide (N - S < 0)) "n" "s" = k then max N S - ab (N - S) else 0) + 0 + ((if _ = k then max E Wt else 0) + (if _ = k then max N S else 0) + ((if eL (decide (E - Wt < 0)) "e" "w" = k then max E Wt - ab (E - Wt) else 0) + 0)) = _
      omega
  have eT : ∀ x y : Str, eL true x y = x := fun x y => rfl
  have eF : ∀ x y : Str, eL false x y = y := fun x y => rfl
  rw [gen, gen, gen, gen]
  by_cases hx : E - Wt < 0 <;> by_cases hy : N - S < 0
  all_goals
    simp only [hx, hy, decide_true, decide_false, eT, eF, m1, m2, m3, m4, m5, m6, Ne.symm m1, Ne.symm m2, Ne.symm m3, Ne.symm m4, Ne.symm m5, Ne.symm m6, if_true, if_false]
    unfold ab
    omega
end AW

set_option linter.all false
set_option maxRecDepth 100000
set_option maxHeartbeats 8000000
namespace AW
open PySem PySem.Spec PyProof.Rows L2 LamX Fewest
variable [Tbs]
def prcR (pe pn pw ps : Int) (qs : List Rn) : Int := pe * cnt "e" qs + pn * cnt "n" qs + pw * cnt "w" qs + ps * cnt "s" qs
def prdF (p : T3) : Int := max (p.2.2 + max 0 (-(p.1 * p.2.1))) (max 0 (p.1 * p.2.1) - p.2.2)
theorem ab_mulP (x y : Int) : ab x * ab y = ab (x * y) := by unfold ab; rw [Int.natAbs_mul]; push_cast; rfl
theorem fr_box {p : T3} {W H : Int} : Fr (ab p.1) (ab p.2.1) (prdF p) W H ↔ ab p.1 ≤ W ∧ ab p.2.1 ≤ H ∧ ab (2 * p.2.2 - p.1 * p.2.1) + ab p.1 * ab p.2.1 ≤ 2 * (W * H) := by
  unfold Fr
  rw [ab_mulP, lot_in]
  unfold prdF
  generalize W * H = m
  generalize p.1 * p.2.1 = z
  omega
def lpF (pe pn pw ps : Int) (p : T3) (W H : Int) : Int := ab p.1 * (if p.1 < 0 then pw else pe) + ab p.2.1 * (if p.2.1 < 0 then ps else pn) + (pe + pw) * (W - ab p.1) + (pn + ps) * (H - ab p.2.1)
theorem lp_box {E W : Int} (a b : Int) : ab (E - W) * (if E - W < 0 then b else a) + (a + b) * (max E W - ab (E - W)) = a * E + b * W := by
  by_cases h : E - W < 0
  · rw [if_pos h, show ab (E - W) = W - E by unfold ab; omega, show max E W = W by omega]; grind
  · rw [if_neg h, show ab (E - W) = E - W by unfold ab; omega, show max E W = E by omega]; grind
theorem lp_of {pe pn pw ps E N Wt S : Int} (a : Int) : lpF pe pn pw ps (E - Wt, N - S, a) (max E Wt) (max N S) = pe * E + pn * N + pw * Wt + ps * S := by
  have h1 := lp_box (E := E) (W := Wt) pe pw
  have h2 := lp_box (E := N) (W := S) pn ps
  unfold lpF
  show ab (E - Wt) * (if E - Wt < 0 then pw else pe) + ab (N - S) * (if N - S < 0 then ps else pn) + (pe + pw) * (max E Wt - ab (E - Wt)) + (pn + ps) * (max N S - ab (N - S)) = _
  omega
theorem sides_of {x W : Int} (h : ab x ≤ W) : ∃ E Wt : Int, 0 ≤ E ∧ 0 ≤ Wt ∧ x = E - Wt ∧ W = max E Wt := by
  by_cases q : x < 0
  · exact ⟨W - ab x, W, by omega, by unfold ab at h; omega, by unfold ab at *; omega, by unfold ab at *; omega⟩
  · exact ⟨W, W - ab x, by unfold ab at h; omega, by omega, by unfold ab at *; omega, by unfold ab at *; omega⟩
theorem frame_prc {pe pn pw ps : Int} {p : T3} {W H : Int} (h1 : ab p.1 ≤ W) (h2 : ab p.2.1 ≤ H) : prcR pe pn pw ps (frameF p W H) = lpF pe pn pw ps p W H := by
  obtain ⟨x, y, a⟩ := p
  obtain ⟨E, Wt, e0, w0, rfl, rfl⟩ := sides_of h1
  obtain ⟨N, S, n0, s0, rfl, rfl⟩ := sides_of h2
  obtain ⟨c1, c2, c3, c4⟩ := frame_cnt (a := a) e0 n0 w0 s0
  unfold prcR
  rw [lp_of]
  show pe * cnt "e" (frameF (E - Wt, N - S, a) (max E Wt) (max N S)) + pn * cnt "n" (frameF (E - Wt, N - S, a) (max E Wt) (max N S)) + pw * cnt "w" (frameF (E - Wt, N - S, a) (max E Wt) (max N S)) + ps * cnt "s" (frameF (E - Wt, N - S, a) (max E Wt) (max N S)) = _
  rw [c1, c2, c3, c4]
abbrev CFp (pe pn pw ps : Int) (p : T3) (W H : Int) : Prop := CF (ab p.1) (ab p.2.1) (prdF p) (pe + pw) (pn + ps) W H
theorem lp_low {pe pn pw ps : Int} {p : T3} {W H : Int} {qs : List Rn} (cf : CFp pe pn pw ps p W H) (hg : GoodR qs) (hp : posF qs = p) : lpF pe pn pw ps p W H ≤ prcR pe pn pw ps qs := by
  subst hp
  obtain ⟨c1, c2⟩ := cnt_pos hg
  have bx := box_walk hg
  have f : Fr (ab (posF qs).1) (ab (posF qs).2.1) (prdF (posF qs)) (lotP qs) (lotQ qs) := fr_box.mpr bx
  have l := cf.le _ _ f
  have e : lpF pe pn pw ps (posF qs) (lotP qs) (lotQ qs) = prcR pe pn pw ps qs := by
    have := lp_of (pe := pe) (pn := pn) (pw := pw) (ps := ps) (E := cnt "e" qs) (N := cnt "n" qs) (Wt := cnt "w" qs) (S := cnt "s" qs) (posF qs).2.2
    rw [← c1, ← c2] at this
    exact this
  rw [← e]
  unfold lpF
  rw [Int.mul_sub, Int.mul_sub, Int.mul_sub, Int.mul_sub]
  omega
structure IsL (pe pn pw ps : Int) (p : T3) (v : Int) : Prop where
  ex : ∃ qs, GoodR qs ∧ posF qs = p ∧ prcR pe pn pw ps qs = v
  le : ∀ qs, GoodR qs → posF qs = p → v ≤ prcR pe pn pw ps qs
theorem cf_isL {pe pn pw ps : Int} {p : T3} {W H : Int} (cf : CFp pe pn pw ps p W H) : IsL pe pn pw ps p (lpF pe pn pw ps p W H) := by
  obtain ⟨b1, b2, b3⟩ := fr_box.mp cf.fr
  obtain ⟨g, _, q, _⟩ := frame_ok b1 b2 b3
  exact ⟨⟨_, g, q, frame_prc b1 b2⟩, fun qs => lp_low cf⟩
structure PrS (pe pn pw ps : Int) : Prop where
  e : 1 ≤ pe ∧ pe ≤ 1000
  n : 1 ≤ pn ∧ pn ≤ 1000
  w : 1 ≤ pw ∧ pw ≤ 1000
  s : 1 ≤ ps ∧ ps ≤ 1000
theorem prc_app (pe pn pw ps : Int) (xs ys : List Rn) : prcR pe pn pw ps (xs ++ ys) = prcR pe pn pw ps xs + prcR pe pn pw ps ys := by
  unfold prcR
  simp only [cnt_append, Int.mul_add]
  omega
theorem prc_nn {pe pn pw ps : Int} (z : PrS pe pn pw ps) {qs : List Rn} (g : GoodR qs) : 0 ≤ prcR pe pn pw ps qs := by
  have h1 := Int.mul_nonneg (show 0 ≤ pe by have := z.e; omega) (cnt_nn (c := "e") g)
  have h2 := Int.mul_nonneg (show 0 ≤ pn by have := z.n; omega) (cnt_nn (c := "n") g)
  have h3 := Int.mul_nonneg (show 0 ≤ pw by have := z.w; omega) (cnt_nn (c := "w") g)
  have h4 := Int.mul_nonneg (show 0 ≤ ps by have := z.s; omega) (cnt_nn (c := "s") g)
  unfold prcR
  omega
def pl4 (pe pn pw ps : Int) (c : Str) : Int := if c = "e" then pe else if c = "n" then pn else if c = "w" then pw else ps
theorem prc_one {pe pn pw ps : Int} {c : Str} (t : Int) (hc : c ∈ chS "enws") : prcR pe pn pw ps [(c, t)] = pl4 pe pn pw ps c * t := by
  obtain ⟨m1, m2, m3, m4, m5, m6⟩ := str_ne
  unfold prcR pl4
  simp only [cnt_cons, cnt_nil]
  rcases mem_enws hc with rfl | rfl | rfl | rfl
  all_goals simp [m1, m2, m3, m4, m5, m6, Ne.symm m1, Ne.symm m2, Ne.symm m3, Ne.symm m4, Ne.symm m5, Ne.symm m6]
theorem pl4_pos {pe pn pw ps : Int} (z : PrS pe pn pw ps) (c : Str) : 1 ≤ pl4 pe pn pw ps c ∧ pl4 pe pn pw ps c ≤ 1000 := by
  have := z.e; have := z.n; have := z.w; have := z.s
  unfold pl4
  split
  · omega
  · split
    · omega
    · split <;> omega
theorem IsL.home {pe pn pw ps v : Int} (z : PrS pe pn pw ps) (h : IsL pe pn pw ps (0, 0, 0) v) : v = 0 := by
  obtain ⟨⟨qs, g, e, rfl⟩, l⟩ := h
  have := prc_nn z g
  have := l [] (fun _ q => nomatch q) rfl
  have e2 : prcR pe pn pw ps [] = 0 := by simp [prcR, cnt_nil]
  omega
theorem IsL.step {pe pn pw ps v v' : Int} {p : T3} {c : Str} (hc : c ∈ chS "enws") (h : IsL pe pn pw ps p v) (h' : IsL pe pn pw ps (cStep p (c, 1)) v') : v' ≤ v + pl4 pe pn pw ps c := by
  obtain ⟨⟨qs, g, rfl, rfl⟩, _⟩ := h
  have := h'.le (qs ++ [(c, 1)]) (fun q hq => by
    rcases List.mem_append.mp hq with x | x
    · exact g q x
    · rw [List.mem_singleton] at x; subst x; exact ⟨hc, show (0 : Int) ≤ 1 by decide⟩) (posF_snoc _ _)
  rw [prc_app, prc_one 1 hc, Int.mul_one] at this
  exact this
theorem cStep_inj {p q : T3} {r : Rn} (h : cStep p r = cStep q r) : p = q := by
  obtain ⟨a, b, c⟩ := p
  obtain ⟨a', b', c'⟩ := q
  unfold cStep at h
  injection h with h1 h2
  injection h2 with h2 h3
  have e1 : a = a' := by simpa using h1
  subst e1
  have e2 : b = b' := by simpa using h2
  have e3 : c = c' := by simpa using h3
  subst e2 e3
  rfl
theorem IsL.last {pe pn pw ps v : Int} {p : T3} (z : PrS pe pn pw ps) (h : IsL pe pn pw ps p v) (ne : p ≠ (0, 0, 0)) : 0 < v ∧ ∃ c, c ∈ chS "enws" ∧ ∀ q v', cStep q (c, 1) = p → IsL pe pn pw ps q v' → v = v' + pl4 pe pn pw ps c := by
  obtain ⟨⟨qs, g, e, ev⟩, l⟩ := h
  obtain ⟨up, uc⟩ := un_pos g
  have ug := un_good g
  have ep : prcR pe pn pw ps (unR (expR qs)) = v := by unfold prcR at *; rw [uc, uc, uc, uc]; exact ev
  rcases List.eq_nil_or_concat (expR qs) with hn | ⟨l', c, hl⟩
  · rw [hn] at up
    exact absurd (e.symm.trans up.symm) ne
  · rw [List.concat_eq_append] at hl
    rw [hl, show unR (l' ++ [c]) = unR l' ++ [(c, 1)] by unfold unR; rw [List.map_append]; rfl] at up ug ep
    have hc : c ∈ chS "enws" := (ug (c, 1) (List.mem_append_right _ (List.mem_singleton.mpr rfl))).1
    have ug' : GoodR (unR l') := fun q hq => ug q (List.mem_append_left _ hq)
    rw [posF_snoc, e] at up
    rw [prc_app, prc_one 1 hc, Int.mul_one] at ep
    have n1 := prc_nn z ug'
    have n2 := (pl4_pos z c).1
    refine ⟨by omega, c, hc, fun q v' hq h' => ?_⟩
    have eq : posF (unR l') = q := cStep_inj (up.trans hq.symm)
    have l1 := h'.le _ ug' eq
    have l2 := IsL.step (v' := v) hc h' (by rw [hq]; exact ⟨⟨qs, g, e, ev⟩, l⟩)
    omega
end AW

set_option linter.all false
set_option maxRecDepth 100000
set_option maxHeartbeats 8000000
namespace AW
open PySem PySem.Spec PyProof.Rows L2 LamX Fewest
variable [Tbs]
section
variable {P : Program} {w : World} {K : PySem.W.Frag} {mg : Str → Option Value} {base : Heap} [CDict K w "DIRECTIONS" L_DIRECTIONS]
abbrev pcN : List Str := ["east", "north", "west", "south"]
abbrev pcD (T : Tx K mg) (pe pn pw ps : Int) : D := .ins T.C_Prices pcN [.int pe, .int pn, .int pw, .int ps]
def pr_Prices_init (T : Tx K mg) : List D → Int → (List D → Int → Prop) → EW → Prop := fun ds B k e => ∃ pe pn pw ps : Int, ds = [.int pe, .int pn, .int pw, .int ps] ∧ PrS pe pn pw ps ∧ k ds B
theorem okD_Prices_init (T : Tx K mg) : FnOk P w K mg base (L2.CX P w) 4 T.a_Prices_init T.d_Prices_init P_Prices_init (spI K T.C_Prices pcN (pr_Prices_init T)) := by
  have G_check_from : FnOk P w K mg base (L2.CX P w) 3 _ _ _ _ := okD_check_from T
  have G_BadNumber_init : FnOk P w K mg base (L2.CX P w) 1 _ _ _ _ := ok_BadNumber_init T
  refine T.F_Prices_init.okX sc_Prices_init (fun vs H Q E h => ?_) (fun cdv A outer s H vs Q E hr h => ?_)
  · obtain ⟨p, dx, us, G, ds, B, k, e, rfl, hp, gp, gdx, ne, hd, hs, hR, ⟨pe, pn, pw, ps, rfl, _⟩, hK, hX⟩ := h
    rw [List.length_cons, ← hR.length]
    rfl
  · obtain ⟨p, dx, us, G, ds, B, k, e, rfl, hp, gp, gdx, ne, hd, hs, hR, ⟨pe, pn, pw, ps, rfl, z, hk⟩, hK, hX⟩ := h
    have n1 : ∀ q ∈ ([("east" : Str)] : List Str), q ≠ ("north" : Str) := by decide +kernel
    have n2 : ∀ q ∈ ([("east" : Str), "north"] : List Str), q ≠ ("west" : Str) := by decide +kernel
    have n3 : ∀ q ∈ ([("east" : Str), "north", "west"] : List Str), q ≠ ("south" : Str) := by decide +kernel
    refine ⟨_, (pss_cons (ps_for (passes_of rfl) rfl (pi_tup (pe_tup (pa_cons (pv 1) (pa_cons (pv 2) (pa_cons (pv 3) (pa_cons (pv 4) pa_nil)))))) (pg_name (i := 5) sc_Prices_init.nd rfl (.inl rfl))
 (pss_cons (ps_expr (pe_call G_check_from (hr.mono (by decide)) (by rfl) T.g_check_from T.F_check_from.kp T.b_check_from .nil passL (pa_cons (pv 5) (pa_cons pe_int pa_nil))))
 (pss_one (ps_if (pt_cmpR op_gt (pv 5) (pe_glob (v := .int 1000) (by rfl) T.gc_HIGHEST_PRICE ⟨_, rfl⟩) (nomark _))
 (pss_one (ps_raise rfl (takes_of rfl rfl rfl rfl) (pmk_oex T.X_BadNumber T.ei_BadNumber T.et_BadNumber G_BadNumber_init (hr.mono (by decide)) T.b_BadNumber_init .nil passL rfl T.g_C_BadNumber (by exact (pa_cons (pv 5) pa_nil)))))
 pss_nil))))
 (pss_cons (ps_fld (pv 0) (pv 1) rfl)
 (pss_cons (ps_fld (pv 0) (pv 2) rfl)
 (pss_cons (ps_fld (pv 0) (pv 3) rfl)
 (pss_one (ps_fld (pv 0) (pv 4) rfl)))))), run_init (kf := fun fs O' B' => fs.map (·.1) = pcN ∧ k (fs.map (·.2)) B') hp gp hs hR rfl (fun fs us O' B' G' H' hf ex g2 h2 hr2 ow2 hpn => ?_) ?_⟩
    · obtain ⟨e1, hf⟩ := hf
      rw [e1] at h2
      refine hK _ us B' G' H' hf ex.le ex.sub (fun a o z n nb nt => ex.fr a o (by rw [hide1 nb]; exact z) n nt) g2 h2 ?_ hr2
      have h3 := hr2.length
      have h4 := congrArg List.length e1
      rw [List.length_map] at h3 h4
      show 4 = _
      exact h4.symm.trans h3
    · refine wx_seq <| wx_ws <| ws_for_tup <| we_tup <| wa_cons <| we_var rfl <| wa_cons <| we_var rfl <| wa_cons <| we_var rfl <| wa_cons <| we_var rfl <| wa_nil ⟨by show 4 ≤ sizeLine; decide, _, rfl, fun i ρ' B' => ∃ o, ρ' = [some (.val (.ref p)), some (.int pe), some (.int pn), some (.int pw), some (.int ps), o] ∧ B' = B, ⟨none, rfl, rfl⟩, fun i x ρ' B' hi hI => ?_, fun ρ' B' hI => ?_⟩
      · obtain ⟨o, rfl, rfl⟩ := hI
        have hx : ∃ v : Int, x = .int v ∧ 1 ≤ v ∧ v ≤ 1000 := by
          have := List.mem_of_getElem? hi
          simp only [List.mem_cons, List.not_mem_nil, or_false] at this
          rcases this with rfl | rfl | rfl | rfl
          · exact ⟨_, rfl, z.e⟩
          · exact ⟨_, rfl, z.n⟩
          · exact ⟨_, rfl, z.w⟩
          · exact ⟨_, rfl, z.s⟩
        obtain ⟨v, rfl, v0, v1⟩ := hx
        refine wg_name <| ws_seq <| ws_drop <| we_call <| wa_cons <| we_var rfl <| wa_cons <| we_int <| wa_nil ⟨_, _, rfl, .inl ⟨v, rfl, v0, ?_⟩⟩
        exact ws_if <| wt_test <| we_op <| we_var rfl <| we_int <| ro_b0 ⟨_, rfl, (fun h => absurd (of_decide_eq_true h) (by omega)), (fun _ => ws_next ⟨_, rfl, rfl⟩)⟩
      · obtain ⟨o, rfl, rfl⟩ := hI
        refine wx_seq <| wx_fldS (i := 0) (C := T.C_Prices) (dx := dx) rfl <| wew_we <| we_var rfl ⟨0, [], rfl, T.cl_Prices, T.na_Prices_east, by decide, (fun q hq => nomatch hq), ?_⟩
        refine wx_seq <| wx_fldS (i := 0) (C := T.C_Prices) (dx := dx) rfl <| wew_we <| we_var rfl ⟨0, _, rfl, T.cl_Prices, T.na_Prices_north, by simp, n1, ?_⟩
        refine wx_seq <| wx_fldS (i := 0) (C := T.C_Prices) (dx := dx) rfl <| wew_we <| we_var rfl ⟨0, _, rfl, T.cl_Prices, T.na_Prices_west, by simp, n2, ?_⟩
        refine wx_fldS (i := 0) (C := T.C_Prices) (dx := dx) rfl <| wew_we <| we_var rfl ⟨0, _, rfl, T.cl_Prices, T.na_Prices_south, by simp, n3, 0, _, rfl, rfl, ?_⟩
        exact hk
theorem ab_ifP (i : Int) : (if i < 0 then -i else i) = ab i := by unfold ab; split <;> omega
theorem ab_nnP (i : Int) : 0 ≤ ab i := by unfold ab; omega
structure SzP' (p : T3) : Prop where
  x : Bd 140 p.1
  y : Bd 140 p.2.1
  a : Bd 345 p.2.2
theorem SzP'.bg {pe pn pw ps : Int} (z : PrS pe pn pw ps) {p : T3} (s : SzP' p) : BgS (ab p.1) (ab p.2.1) (prdF p) (pe + pw) (pn + ps) := by
  refine ⟨s.x.ab.mono (by decide), s.y.ab.mono (by decide), ?_, ?_, ?_⟩
  · have h1 : Bd 398 (p.1 * p.2.1) := (s.x.mul s.y).mono (by decide)
    have h2 : Bd 398 p.2.2 := s.a.mono (by decide)
    have e : (2 : Nat) ^ 400 = 4 * 2 ^ 398 := by rw [show 400 = 398 + 2 from rfl, Nat.pow_add]; omega
    unfold prdF
    unfold Bd at *
    omega
  · have := z.e; have := z.w; unfold Bd; omega
  · have := z.n; have := z.s; unfold Bd; omega
theorem cfp_bd {pe pn pw ps : Int} (z : PrS pe pn pw ps) {p : T3} (s : SzP' p) {W H : Int} (cf : CFp pe pn pw ps p W H) : Bd 900 W ∧ Bd 900 H := by
  have bs := s.bg z
  have a0 := ab_nnP p.1
  have u0 := ab_nnP p.2.1
  have ew := z.e; have ww := z.w; have nn := z.n; have ss := z.s
  have c : Bd 900 ((pe + pw) * W + (pn + ps) * H) := by
    have n1 := cf.fr.1
    have n2 := cf.fr.2.1
    have m1 := Int.mul_nonneg (show 0 ≤ pe + pw by omega) (show 0 ≤ W by omega)
    have m2 := Int.mul_nonneg (show 0 ≤ pn + ps by omega) (show 0 ≤ H by omega)
    by_cases q : prdF p ≤ ab p.1 * ab p.2.1
    · have l := cf.le _ _ ⟨Int.le_refl _, Int.le_refl _, q⟩
      exact Bd.of_le (by omega) l (Bd.mono ((bs.bw.mul bs.ba).add2 (bs.bh.mul bs.bu)) (by decide))
    · exact (cf.bd ⟨a0, u0, by omega, by omega, by omega⟩ bs).1
  have n1 := cf.fr.1
  have n2 := cf.fr.2.1
  have m1 := Int.mul_le_mul_of_nonneg_right (show 1 ≤ pe + pw by omega) (show 0 ≤ W by omega)
  have m2 := Int.mul_le_mul_of_nonneg_right (show 1 ≤ pn + ps by omega) (show 0 ≤ H by omega)
  exact ⟨Bd.of_le (by omega) (by omega) c, Bd.of_le (by omega) (by omega) c⟩
abbrev plP (T : Tx K mg) (p : T3) : D := pl T p.1 p.2.1 p.2.2
def pr_Prices_frame (T : Tx K mg) : Pr := fun ds B k e => ∃ (pe pn pw ps : Int) (p : T3), ds = [pcD T pe pn pw ps, plP T p] ∧ PrS pe pn pw ps ∧ SzP' p ∧ ∀ W H, CFp pe pn pw ps p W H → k (t2 W H) B
theorem okD_Prices_frame (T : Tx K mg) : FnOk P w K mg base (L2.CX P w) 6 T.a_Prices_frame T.d_Prices_frame P_Prices_frame (spD K (pr_Prices_frame T)) := by
  refine T.F_Prices_frame.okX sc_Prices_frame (spD_len fun ds B k e h => by obtain ⟨pe, pn, pw, ps, p, rfl, z, s1, hk⟩ := h; rfl) (fun cdv A outer s H vs Q E hr h => ?_)
  have G_cheapest_frame : FnOk P w K mg base (L2.CX P w) 5 _ _ _ _ := okD_cheapest_frame T
  obtain ⟨G, ds, B, k, e, hs, hR, ⟨pe, pn, pw, ps, p, rfl, z, s1, hk⟩, hK, hX⟩ := h
  refine ⟨_, (pss_cons (ps_set (i := 2) sc_Prices_frame.nd rfl (.inl rfl) (pe_op op_mulW (pe_fld (pv 1) rfl) (pe_fld (pv 1) rfl)))
 (pss_cons (ps_set (i := 3) sc_Prices_frame.nd rfl (.inl rfl) (pe_callB (call_max2 rfl) (by rfl) T.n_max (by decide +kernel) (pa_cons (pe_op op_add (pe_fld (pv 1) rfl) (pe_callB (call_max2 rfl) (by rfl) T.n_max (by decide +kernel) (pa_cons pe_int (pa_cons (pe_un un_neg (pv 2)) pa_nil)))) (pa_cons (pe_op op_sub (pe_callB (call_max2 rfl) (by rfl) T.n_max (by decide +kernel) (pa_cons pe_int (pa_cons (pv 2) pa_nil))) (pe_fld (pv 1) rfl)) pa_nil))))
 (pss_one (ps_ret (pe_call G_cheapest_frame (hr.mono (by decide)) (by rfl) T.g_cheapest_frame T.F_cheapest_frame.kp T.b_cheapest_frame .nil passL (pa_cons (pe_callB call_abs (by rfl) T.n_abs (by decide +kernel) (pa_cons (pe_fld (pv 1) rfl) pa_nil)) (pa_cons (pe_callB call_abs (by rfl) T.n_abs (by decide +kernel) (pa_cons (pe_fld (pv 1) rfl) pa_nil)) (pa_cons (pv 3) (pa_cons (pe_op op_add (pe_fld (pv 0) rfl) (pe_fld (pv 0) rfl)) (pa_cons (pe_op op_add (pe_fld (pv 0) rfl) (pe_fld (pv 0) rfl)) pa_nil)))))))))), run_body (ρ := [some (pcD T pe pn pw ps), some (plP T p), none, none]) hs hR hK hX rfl ?_⟩
  have bx := s1.x
  have by' := s1.y
  have ew := z.e; have ww := z.w; have nn := z.n; have ss := z.s
  refine ws_seq (ws_set (we_op (we_fx T (we_var rfl ⟨_, _, _, rfl, (we_fy T (we_var rfl ⟨_, _, _, rfl, (ro_i (cmc (by apply Bd.mono; (repeat (first | assumption | exact Bd.lit 64 (by decide +kernel) | exact Bd.lit 2000 (by decide +kernel) | apply Bd.neg | apply Bd.fdiv | apply Bd.mul | apply Bd.add2 | apply Bd.sub2)); decide) (by apply Bd.mono; (repeat (first | assumption | exact Bd.lit 64 (by decide +kernel) | exact Bd.lit 2000 (by decide +kernel) | apply Bd.neg | apply Bd.fdiv | apply Bd.mul | apply Bd.add2 | apply Bd.sub2)); decide)) ?_)⟩))⟩))))
  refine ws_seq (ws_set (we_max2 (wa_cons (we_op (we_fa T (we_var rfl ⟨_, _, _, rfl, (we_max2 (wa_cons (we_int (wa_cons (we_neg (we_var rfl ⟨_, rfl, (wa_nil ⟨_, _, rfl, (ro_i0 (wa_cons (we_op (we_max2 (wa_cons (we_int (wa_cons (we_var rfl (wa_nil ⟨_, _, rfl, (we_fa T (we_var rfl ⟨_, _, _, rfl, (ro_i0 (wa_nil ⟨_, _, rfl, ?_⟩))⟩))⟩)))))))))⟩)⟩))))))⟩))))))
  rw [mx_max, mx_max, mx_max, show max (p.2.2 + max 0 (-(p.1 * p.2.1))) (max 0 (p.1 * p.2.1) - p.2.2) = prdF p from rfl]
  refine (ws_ret (we_call (wa_cons (we_abs (wa_cons (we_fx T (we_var rfl ⟨_, _, _, rfl, (wa_nil ⟨_, rfl, (wa_cons (we_abs (wa_cons (we_fy T (we_var rfl ⟨_, _, _, rfl, (wa_nil ⟨_, rfl, (wa_cons (we_var rfl (wa_cons (we_op (we_fld (we_var rfl ⟨_, _, _, _, rfl, T.cl_Prices, T.na_Prices_east, rfl, (we_fld (we_var rfl ⟨_, _, _, _, rfl, T.cl_Prices, T.na_Prices_west, rfl, (ro_i0 (wa_cons (we_op (we_fld (we_var rfl ⟨_, _, _, _, rfl, T.cl_Prices, T.na_Prices_north, rfl, (we_fld (we_var rfl ⟨_, _, _, _, rfl, T.cl_Prices, T.na_Prices_south, rfl, (ro_i0 (wa_nil ⟨_, _, _, _, _, rfl, ?_⟩))⟩))⟩)))))⟩))⟩))))))⟩)⟩)))))⟩)⟩)))))))
  rw [ab_ifP, ab_ifP]
  exact ⟨ab_nnP _, ab_nnP _, by omega, by omega, s1.bg z, hk⟩
def pr_Prices_least_price (T : Tx K mg) : Pr := fun ds B k e => ∃ (pe pn pw ps : Int) (p : T3), ds = [pcD T pe pn pw ps, plP T p] ∧ PrS pe pn pw ps ∧ SzP' p ∧ ∀ v, IsL pe pn pw ps p v → k (.int v) B
theorem okD_Prices_least_price (T : Tx K mg) : FnOk P w K mg base (L2.CX P w) 7 T.a_Prices_least_price T.d_Prices_least_price P_Prices_least_price (spD K (pr_Prices_least_price T)) := by
  refine T.F_Prices_least_price.okX sc_Prices_least_price (spD_len fun ds B k e h => by obtain ⟨pe, pn, pw, ps, p, rfl, z, s1, hk⟩ := h; rfl) (fun cdv A outer s H vs Q E hr h => ?_)
  have G_Prices_frame : FnOk P w K mg base (L2.CX P w) 6 _ _ _ _ := okD_Prices_frame T
  obtain ⟨G, ds, B, k, e, hs, hR, ⟨pe, pn, pw, ps, p, rfl, z, s1, hk⟩, hK, hX⟩ := h
  refine ⟨_, (pss_cons (ps_par (i := 2) (j := 3) (by rfl) sc_Prices_least_price.nd rfl rfl (by decide) rfl rfl (pa_cons (pe_callB call_abs (by rfl) T.n_abs (by decide +kernel) (pa_cons (pe_fld (pv 1) rfl) pa_nil)) (pa_cons (pe_callB call_abs (by rfl) T.n_abs (by decide +kernel) (pa_cons (pe_fld (pv 1) rfl) pa_nil)) pa_nil)) (by rfl))
 (pss_cons (ps_asg (pe_meth (pv 0) T.cl_Prices T.M_Prices_frame G_Prices_frame (hr.mono (by decide)) T.b_Prices_frame .nil passL (pa_cons (pv 1) pa_nil)) (pg_tup rfl (pgs_cons (pg_name (i := 4) sc_Prices_least_price.nd rfl (.inl rfl)) (pgs_cons (pg_name (i := 5) sc_Prices_least_price.nd rfl (.inl rfl)) pgs_nil))))
 (pss_cons (ps_set (i := 6) sc_Prices_least_price.nd rfl (.inl rfl) (pe_op op_add (pe_op op_mulW (pv 2) (pe_ifExp (pt_cmpR op_lt (pe_fld (pv 1) rfl) pe_int (nomark _)) (pe_fld (pv 0) rfl) (pe_fld (pv 0) rfl))) (pe_op op_mulW (pv 3) (pe_ifExp (pt_cmpR op_lt (pe_fld (pv 1) rfl) pe_int (nomark _)) (pe_fld (pv 0) rfl) (pe_fld (pv 0) rfl)))))
 (pss_one (ps_ret (pe_op op_add (pe_op op_add (pv 6) (pe_op op_mulW (pe_op op_add (pe_fld (pv 0) rfl) (pe_fld (pv 0) rfl)) (pe_op op_sub (pv 4) (pv 2)))) (pe_op op_mulW (pe_op op_add (pe_fld (pv 0) rfl) (pe_fld (pv 0) rfl)) (pe_op op_sub (pv 5) (pv 3))))))))), run_body (ρ := [some (pcD T pe pn pw ps), some (plP T p), none, none, none, none, none]) hs hR hK hX rfl ?_⟩
  have bx := s1.x.ab
  have by' := s1.y.ab
  have ew := z.e; have ww := z.w; have nn := z.n; have ss := z.s
  have be : Bd 20 pe := by unfold Bd; omega
  have bn : Bd 20 pn := by unfold Bd; omega
  have bw : Bd 20 pw := by unfold Bd; omega
  have bs : Bd 20 ps := by unfold Bd; omega
  refine ws_seq (ws_par (wa_cons (we_abs (wa_cons (we_fx T (we_var rfl ⟨_, _, _, rfl, (wa_nil ⟨_, rfl, (wa_cons (we_abs (wa_cons (we_fy T (we_var rfl ⟨_, _, _, rfl, (wa_nil ⟨_, rfl, (wa_nil ⟨_, _, rfl, ?_⟩)⟩)⟩)))))⟩)⟩))))))
  rw [ab_ifP, ab_ifP]
  refine ws_seq (ws_asg (we_meth (we_var rfl ⟨_, _, rfl, by decide +kernel, (wa_cons (we_var rfl (wa_nil ⟨_, _, _, _, p, rfl, z, s1, fun W H cf => (wg_tup rfl (wgs_cons (wg_name (wgs_cons (wg_name (wgs_nil ?_))))))⟩)))⟩)))
  obtain ⟨bW, bH⟩ := cfp_bd z s1 cf
  have hv := hk _ (cf_isL cf)
  unfold lpF at hv
  refine ws_seq (ws_set (we_op (we_op (we_var rfl (we_ifE (wt_test (we_op (we_fx T (we_var rfl ⟨_, _, _, rfl, (we_int (ro_b0 ⟨_, rfl, ⟨fun hc3 => (we_fld (we_var rfl ⟨_, _, _, _, rfl, T.cl_Prices, T.na_Prices_west, rfl, (ro_i (cmc (by apply Bd.mono; (repeat (first | assumption | exact Bd.lit 64 (by decide +kernel) | exact Bd.lit 2000 (by decide +kernel) | apply Bd.neg | apply Bd.fdiv | apply Bd.mul | apply Bd.add2 | apply Bd.sub2)); decide) (by apply Bd.mono; (repeat (first | assumption | exact Bd.lit 64 (by decide +kernel) | exact Bd.lit 2000 (by decide +kernel) | apply Bd.neg | apply Bd.fdiv | apply Bd.mul | apply Bd.add2 | apply Bd.sub2)); decide)) (we_op (we_var rfl (we_ifE (wt_test (we_op (we_fy T (we_var rfl ⟨_, _, _, rfl, (we_int (ro_b0 ⟨_, rfl, ⟨fun hc1 => (we_fld (we_var rfl ⟨_, _, _, _, rfl, T.cl_Prices, T.na_Prices_south, rfl, (ro_i (cmc (by apply Bd.mono; (repeat (first | assumption | exact Bd.lit 64 (by decide +kernel) | exact Bd.lit 2000 (by decide +kernel) | apply Bd.neg | apply Bd.fdiv | apply Bd.mul | apply Bd.add2 | apply Bd.sub2)); decide) (by apply Bd.mono; (repeat (first | assumption | exact Bd.lit 64 (by decide +kernel) | exact Bd.lit 2000 (by decide +kernel) | apply Bd.neg | apply Bd.fdiv | apply Bd.mul | apply Bd.add2 | apply Bd.sub2)); decide)) (ro_i0 ?_))⟩)), fun hc2 => (we_fld (we_var rfl ⟨_, _, _, _, rfl, T.cl_Prices, T.na_Prices_north, rfl, (ro_i (cmc (by apply Bd.mono; (repeat (first | assumption | exact Bd.lit 64 (by decide +kernel) | exact Bd.lit 2000 (by decide +kernel) | apply Bd.neg | apply Bd.fdiv | apply Bd.mul | apply Bd.add2 | apply Bd.sub2)); decide) (by apply Bd.mono; (repeat (first | assumption | exact Bd.lit 64 (by decide +kernel) | exact Bd.lit 2000 (by decide +kernel) | apply Bd.neg | apply Bd.fdiv | apply Bd.mul | apply Bd.add2 | apply Bd.sub2)); decide)) (ro_i0 ?_))⟩))⟩⟩))⟩))))))))⟩)), fun hc4 => (we_fld (we_var rfl ⟨_, _, _, _, rfl, T.cl_Prices, T.na_Prices_east, rfl, (ro_i (cmc (by apply Bd.mono; (repeat (first | assumption | exact Bd.lit 64 (by decide +kernel) | exact Bd.lit 2000 (by decide +kernel) | apply Bd.neg | apply Bd.fdiv | apply Bd.mul | apply Bd.add2 | apply Bd.sub2)); decide) (by apply Bd.mono; (repeat (first | assumption | exact Bd.lit 64 (by decide +kernel) | exact Bd.lit 2000 (by decide +kernel) | apply Bd.neg | apply Bd.fdiv | apply Bd.mul | apply Bd.add2 | apply Bd.sub2)); decide)) (we_op (we_var rfl (we_ifE (wt_test (we_op (we_fy T (we_var rfl ⟨_, _, _, rfl, (we_int (ro_b0 ⟨_, rfl, ⟨fun hc1 => (we_fld (we_var rfl ⟨_, _, _, _, rfl, T.cl_Prices, T.na_Prices_south, rfl, (ro_i (cmc (by apply Bd.mono; (repeat (first | assumption | exact Bd.lit 64 (by decide +kernel) | exact Bd.lit 2000 (by decide +kernel) | apply Bd.neg | apply Bd.fdiv | apply Bd.mul | apply Bd.add2 | apply Bd.sub2)); decide) (by apply Bd.mono; (repeat (first | assumption | exact Bd.lit 64 (by decide +kernel) | exact Bd.lit 2000 (by decide +kernel) | apply Bd.neg | apply Bd.fdiv | apply Bd.mul | apply Bd.add2 | apply Bd.sub2)); decide)) (ro_i0 ?_))⟩)), fun hc2 => (we_fld (we_var rfl ⟨_, _, _, _, rfl, T.cl_Prices, T.na_Prices_north, rfl, (ro_i (cmc (by apply Bd.mono; (repeat (first | assumption | exact Bd.lit 64 (by decide +kernel) | exact Bd.lit 2000 (by decide +kernel) | apply Bd.neg | apply Bd.fdiv | apply Bd.mul | apply Bd.add2 | apply Bd.sub2)); decide) (by apply Bd.mono; (repeat (first | assumption | exact Bd.lit 64 (by decide +kernel) | exact Bd.lit 2000 (by decide +kernel) | apply Bd.neg | apply Bd.fdiv | apply Bd.mul | apply Bd.add2 | apply Bd.sub2)); decide)) (ro_i0 ?_))⟩))⟩⟩))⟩))))))))⟩))⟩⟩))⟩)))))))))
  · rw [if_pos (of_decide_eq_true hc3), if_pos (of_decide_eq_true hc1)] at hv
    refine (ws_ret (we_op (we_op (we_var rfl (we_op (we_op (we_fld (we_var rfl ⟨_, _, _, _, rfl, T.cl_Prices, T.na_Prices_east, rfl, (we_fld (we_var rfl ⟨_, _, _, _, rfl, T.cl_Prices, T.na_Prices_west, rfl, (ro_i0 (we_op (we_var rfl (we_var rfl (ro_i0 (ro_i (cmc (by apply Bd.mono; (repeat (first | assumption | exact Bd.lit 64 (by decide +kernel) | exact Bd.lit 2000 (by decide +kernel) | apply Bd.neg | apply Bd.fdiv | apply Bd.mul | apply Bd.add2 | apply Bd.sub2)); decide) (by apply Bd.mono; (repeat (first | assumption | exact Bd.lit 64 (by decide +kernel) | exact Bd.lit 2000 (by decide +kernel) | apply Bd.neg | apply Bd.fdiv | apply Bd.mul | apply Bd.add2 | apply Bd.sub2)); decide)) (ro_i0 (we_op (we_op (we_fld (we_var rfl ⟨_, _, _, _, rfl, T.cl_Prices, T.na_Prices_north, rfl, (we_fld (we_var rfl ⟨_, _, _, _, rfl, T.cl_Prices, T.na_Prices_south, rfl, (ro_i0 (we_op (we_var rfl (we_var rfl (ro_i0 (ro_i (cmc (by apply Bd.mono; (repeat (first | assumption | exact Bd.lit 64 (by decide +kernel) | exact Bd.lit 2000 (by decide +kernel) | apply Bd.neg | apply Bd.fdiv | apply Bd.mul | apply Bd.add2 | apply Bd.sub2)); decide) (by apply Bd.mono; (repeat (first | assumption | exact Bd.lit 64 (by decide +kernel) | exact Bd.lit 2000 (by decide +kernel) | apply Bd.neg | apply Bd.fdiv | apply Bd.mul | apply Bd.add2 | apply Bd.sub2)); decide)) (ro_i0 ?_)))))))⟩))⟩)))))))))))⟩))⟩))))))))
    exact hv
  · rw [if_pos (of_decide_eq_true hc3), if_neg (of_decide_eq_false hc2)] at hv
    refine (ws_ret (we_op (we_op (we_var rfl (we_op (we_op (we_fld (we_var rfl ⟨_, _, _, _, rfl, T.cl_Prices, T.na_Prices_east, rfl, (we_fld (we_var rfl ⟨_, _, _, _, rfl, T.cl_Prices, T.na_Prices_west, rfl, (ro_i0 (we_op (we_var rfl (we_var rfl (ro_i0 (ro_i (cmc (by apply Bd.mono; (repeat (first | assumption | exact Bd.lit 64 (by decide +kernel) | exact Bd.lit 2000 (by decide +kernel) | apply Bd.neg | apply Bd.fdiv | apply Bd.mul | apply Bd.add2 | apply Bd.sub2)); decide) (by apply Bd.mono; (repeat (first | assumption | exact Bd.lit 64 (by decide +kernel) | exact Bd.lit 2000 (by decide +kernel) | apply Bd.neg | apply Bd.fdiv | apply Bd.mul | apply Bd.add2 | apply Bd.sub2)); decide)) (ro_i0 (we_op (we_op (we_fld (we_var rfl ⟨_, _, _, _, rfl, T.cl_Prices, T.na_Prices_north, rfl, (we_fld (we_var rfl ⟨_, _, _, _, rfl, T.cl_Prices, T.na_Prices_south, rfl, (ro_i0 (we_op (we_var rfl (we_var rfl (ro_i0 (ro_i (cmc (by apply Bd.mono; (repeat (first | assumption | exact Bd.lit 64 (by decide +kernel) | exact Bd.lit 2000 (by decide +kernel) | apply Bd.neg | apply Bd.fdiv | apply Bd.mul | apply Bd.add2 | apply Bd.sub2)); decide) (by apply Bd.mono; (repeat (first | assumption | exact Bd.lit 64 (by decide +kernel) | exact Bd.lit 2000 (by decide +kernel) | apply Bd.neg | apply Bd.fdiv | apply Bd.mul | apply Bd.add2 | apply Bd.sub2)); decide)) (ro_i0 ?_)))))))⟩))⟩)))))))))))⟩))⟩))))))))
    exact hv
  · rw [if_neg (of_decide_eq_false hc4), if_pos (of_decide_eq_true hc1)] at hv
    refine (ws_ret (we_op (we_op (we_var rfl (we_op (we_op (we_fld (we_var rfl ⟨_, _, _, _, rfl, T.cl_Prices, T.na_Prices_east, rfl, (we_fld (we_var rfl ⟨_, _, _, _, rfl, T.cl_Prices, T.na_Prices_west, rfl, (ro_i0 (we_op (we_var rfl (we_var rfl (ro_i0 (ro_i (cmc (by apply Bd.mono; (repeat (first | assumption | exact Bd.lit 64 (by decide +kernel) | exact Bd.lit 2000 (by decide +kernel) | apply Bd.neg | apply Bd.fdiv | apply Bd.mul | apply Bd.add2 | apply Bd.sub2)); decide) (by apply Bd.mono; (repeat (first | assumption | exact Bd.lit 64 (by decide +kernel) | exact Bd.lit 2000 (by decide +kernel) | apply Bd.neg | apply Bd.fdiv | apply Bd.mul | apply Bd.add2 | apply Bd.sub2)); decide)) (ro_i0 (we_op (we_op (we_fld (we_var rfl ⟨_, _, _, _, rfl, T.cl_Prices, T.na_Prices_north, rfl, (we_fld (we_var rfl ⟨_, _, _, _, rfl, T.cl_Prices, T.na_Prices_south, rfl, (ro_i0 (we_op (we_var rfl (we_var rfl (ro_i0 (ro_i (cmc (by apply Bd.mono; (repeat (first | assumption | exact Bd.lit 64 (by decide +kernel) | exact Bd.lit 2000 (by decide +kernel) | apply Bd.neg | apply Bd.fdiv | apply Bd.mul | apply Bd.add2 | apply Bd.sub2)); decide) (by apply Bd.mono; (repeat (first | assumption | exact Bd.lit 64 (by decide +kernel) | exact Bd.lit 2000 (by decide +kernel) | apply Bd.neg | apply Bd.fdiv | apply Bd.mul | apply Bd.add2 | apply Bd.sub2)); decide)) (ro_i0 ?_)))))))⟩))⟩)))))))))))⟩))⟩))))))))
    exact hv
  · rw [if_neg (of_decide_eq_false hc4), if_neg (of_decide_eq_false hc2)] at hv
    refine (ws_ret (we_op (we_op (we_var rfl (we_op (we_op (we_fld (we_var rfl ⟨_, _, _, _, rfl, T.cl_Prices, T.na_Prices_east, rfl, (we_fld (we_var rfl ⟨_, _, _, _, rfl, T.cl_Prices, T.na_Prices_west, rfl, (ro_i0 (we_op (we_var rfl (we_var rfl (ro_i0 (ro_i (cmc (by apply Bd.mono; (repeat (first | assumption | exact Bd.lit 64 (by decide +kernel) | exact Bd.lit 2000 (by decide +kernel) | apply Bd.neg | apply Bd.fdiv | apply Bd.mul | apply Bd.add2 | apply Bd.sub2)); decide) (by apply Bd.mono; (repeat (first | assumption | exact Bd.lit 64 (by decide +kernel) | exact Bd.lit 2000 (by decide +kernel) | apply Bd.neg | apply Bd.fdiv | apply Bd.mul | apply Bd.add2 | apply Bd.sub2)); decide)) (ro_i0 (we_op (we_op (we_fld (we_var rfl ⟨_, _, _, _, rfl, T.cl_Prices, T.na_Prices_north, rfl, (we_fld (we_var rfl ⟨_, _, _, _, rfl, T.cl_Prices, T.na_Prices_south, rfl, (ro_i0 (we_op (we_var rfl (we_var rfl (ro_i0 (ro_i (cmc (by apply Bd.mono; (repeat (first | assumption | exact Bd.lit 64 (by decide +kernel) | exact Bd.lit 2000 (by decide +kernel) | apply Bd.neg | apply Bd.fdiv | apply Bd.mul | apply Bd.add2 | apply Bd.sub2)); decide) (by apply Bd.mono; (repeat (first | assumption | exact Bd.lit 64 (by decide +kernel) | exact Bd.lit 2000 (by decide +kernel) | apply Bd.neg | apply Bd.fdiv | apply Bd.mul | apply Bd.add2 | apply Bd.sub2)); decide)) (ro_i0 ?_)))))))⟩))⟩)))))))))))⟩))⟩))))))))
    exact hv
end
end AW

set_option linter.all false
set_option maxRecDepth 100000
set_option maxHeartbeats 8000000
namespace AW
open PySem PySem.Spec PyProof.Rows L2 LamX Fewest
variable [Tbs]
section
variable {P : Program} {w : World} {K : PySem.W.Frag} {mg : Str → Option Value} {base : Heap} [CDict K w "DIRECTIONS" L_DIRECTIONS]
theorem bd_w {m : Nat} {i s : Int} (h0 : -s ≤ i) (h1 : i ≤ s) (hs : Bd m s) : Bd m i := by unfold Bd at *; omega
theorem bdp (k m : Nat) (h : 10 ^ k < 2 ^ m) : Bd m ((10 : Int) ^ k) := by
  unfold Bd
  rw [show ((10 : Int) ^ k) = ((10 ^ k : Nat) : Int) by push_cast; rfl, Int.natAbs_natCast]
  exact h
theorem ten_nn (k : Nat) : 0 ≤ (10 : Int) ^ k := Int.pow_nonneg (by decide)
theorem ro_ten {K : PySem.W.Frag} {E : XK} {e : EW} {B : Int} {k : KD} (n : Nat) (h0 : n ≤ 200) (h : k (.int ((10 : Int) ^ n)) B) : Ro K E e (rI CPow fun i j => V.int (i ^ j.toNat)) (.int 10) (.int (n : Int)) B k := ro_i (show CPow 10 (n : Int) from ⟨by omega, by omega, by decide⟩) (by rw [Int.toNat_natCast]; exact h)
def pr_l_place (T : Tx K mg) : Pr := fun ds B k e => ∃ s : Int, ds = [penF, .int s] ∧ 0 ≤ s ∧ s ≤ 1000 ∧ B ≤ 800000 ∧ ∀ (p : T3) B', SzP' p → B' ≤ B + 72 → k (plP T p) B'
theorem okD_l_place (T : Tx K mg) : FnOk P w K mg base (L2.CX P w) 6 T.a_l_place T.d_l_place P_l_place (spD K (pr_l_place T)) := by
  refine T.F_l_place.okX sc_l_place (spD_len fun ds B k e h => by obtain ⟨s, rfl, s0, s1, hB, hk⟩ := h; rfl) (fun cdv A outer s H vs Q E hr h => ?_)
  have G_Place_init : FnOk P w K mg base (L2.CX P w) _ _ _ _ _ := okD_Place_init T
  have G_l_whole : FnOk P w K mg base (L2.CX P w) 3 _ _ _ _ := okD_l_whole T
  obtain ⟨G, ds, B, k, e, hs, hR, ⟨s, rfl, s0, s1, hB, hk⟩, hK, hX⟩ := h
  refine ⟨_, (pss_one (ps_ret (pe_make T.M_Place G_Place_init (hr.mono (by decide)) (by rfl) T.g_C_Place T.b_Place_init .nil passL (pa_cons (pe_call G_l_whole (hr.mono (by decide)) (by rfl) T.g_l_whole T.F_l_whole.kp T.b_l_whole .nil passL (pa_cons (pv 0) (pa_cons (pv 1) pa_nil))) (pa_cons (pe_call G_l_whole (hr.mono (by decide)) (by rfl) T.g_l_whole T.F_l_whole.kp T.b_l_whole .nil passL (pa_cons (pv 0) (pa_cons (pv 1) pa_nil))) (pa_cons (pe_call G_l_whole (hr.mono (by decide)) (by rfl) T.g_l_whole T.F_l_whole.kp T.b_l_whole .nil passL (pa_cons (pv 0) (pa_cons (pe_op op_mulW (pv 1) (pv 1)) pa_nil))) pa_nil)))))), run_body (ρ := [some penF, some (.int s)]) hs hR hK hX rfl ?_⟩
  have bs : ∀ {m : Nat}, 10 ≤ m → Bd m s := fun h => (show Bd 10 s by unfold Bd; omega).mono h
  have s2 : 0 ≤ s * s ∧ s * s ≤ 1000000 := ⟨Int.mul_nonneg s0 s0, by have := Int.mul_le_mul s1 s1 s0 (by decide); omega⟩
  have b2 : ∀ {m : Nat}, 20 ≤ m → Bd m (s * s) := fun h => (show Bd 20 (s * s) by unfold Bd; omega).mono h
  refine ws_ret <| we_place T <| wa_cons <| we_call <| wa_cons <| we_var rfl <| wa_cons <| we_var rfl <| wa_nil ⟨s, rfl, s0, bs (by decide), by omega, fun x B1 x0 x1 hB1 => ?_⟩
  refine wa_cons <| we_call <| wa_cons <| we_var rfl <| wa_cons <| we_var rfl <| wa_nil ⟨s, rfl, s0, bs (by decide), by omega, fun y B2 y0 y1 hB2 => ?_⟩
  refine wa_cons <| we_call <| wa_cons <| we_var rfl <| wa_cons <| we_op <| we_var rfl <| we_var rfl <| ro_i (cmw (bs (by decide)) (bs (by decide))) <| wa_nil ⟨s * s, rfl, s2.1, b2 (by decide), by omega, fun a B3 a0 a1 hB3 => ?_⟩
  exact wa_nil ⟨x, y, a, rfl, hk (x, y, a) B3 ⟨bd_w x0 x1 (bs (by decide)), bd_w y0 y1 (bs (by decide)), bd_w a0 a1 (b2 (by decide))⟩ (by omega)⟩
def stpT (c : Str) : T3 := (dx c * 1, dy c * 1, 0)
def pr_l_step (T : Tx K mg) : Pr := fun ds B k e => ∃ c : Str, ds = [.str c] ∧ c ∈ chS "enws" ∧ k (plP T (stpT c)) B
theorem okD_l_step (T : Tx K mg) : FnOk P w K mg base (L2.CX P w) 6 T.a_l_step T.d_l_step P_l_step (spD K (pr_l_step T)) := by
  refine T.F_l_step.okX sc_l_step (spD_len fun ds B k e h => by obtain ⟨c, rfl, hc, hk⟩ := h; rfl) (fun cdv A outer s H vs Q E hr h => ?_)
  have G_Place_init : FnOk P w K mg base (L2.CX P w) _ _ _ _ _ := okD_Place_init T
  have hu := hu_of hr
  obtain ⟨G, ds, B, k, e, hs, hR, ⟨c, rfl, hc, hk⟩, hK, hX⟩ := h
  refine ⟨_, (pss_one (ps_ret (pe_dget hu (pe_disp (pps_cons pe_str (pe_make T.M_Place G_Place_init (hr.mono (by decide)) (by rfl) T.g_C_Place T.b_Place_init .nil passL (pa_cons pe_int (pa_cons pe_int (pa_cons pe_int pa_nil)))) (pps_cons pe_str (pe_make T.M_Place G_Place_init (hr.mono (by decide)) (by rfl) T.g_C_Place T.b_Place_init .nil passL (pa_cons (pe_un un_neg pe_int) (pa_cons pe_int (pa_cons pe_int pa_nil)))) (pps_cons pe_str (pe_make T.M_Place G_Place_init (hr.mono (by decide)) (by rfl) T.g_C_Place T.b_Place_init .nil passL (pa_cons pe_int (pa_cons pe_int (pa_cons pe_int pa_nil)))) (pps_cons pe_str (pe_make T.M_Place G_Place_init (hr.mono (by decide)) (by rfl) T.g_C_Place T.b_Place_init .nil passL (pa_cons pe_int (pa_cons (pe_un un_neg pe_int) (pa_cons pe_int pa_nil)))) pps_nil)))) (by rfl) (by rfl) (fun z => by cases z) (by decide)) (pv 0) (fun _ _ => rfl)))), run_body (ρ := [some (.str c)]) hs hR hK hX rfl ?_⟩
  have z : ∀ c' : Str, c' ∈ chS "enws" → plP T (stpT c') = plP T (stpT c') := fun _ _ => rfl
  have d : (dx "e" * 1 = 1 ∧ dy "e" * 1 = 0) ∧ (dx "w" * 1 = -1 ∧ dy "w" * 1 = 0) ∧ (dx "n" * 1 = 0 ∧ dy "n" * 1 = 1) ∧ (dx "s" * 1 = 0 ∧ dy "s" * 1 = -1) := by decide +kernel
  refine ws_ret <| we_dsel <| we_str ⟨_, rfl, we_place T <| wa_cons <| we_int <| wa_cons <| we_int <| wa_cons <| we_int <| wa_nil ⟨_, _, _, rfl, ?_⟩⟩
  refine we_str ⟨_, rfl, we_place T <| wa_cons <| we_neg <| we_int ⟨_, rfl, wa_cons <| we_int <| wa_cons <| we_int <| wa_nil ⟨_, _, _, rfl, ?_⟩⟩⟩
  refine we_str ⟨_, rfl, we_place T <| wa_cons <| we_int <| wa_cons <| we_int <| wa_cons <| we_int <| wa_nil ⟨_, _, _, rfl, ?_⟩⟩
  refine we_str ⟨_, rfl, we_place T <| wa_cons <| we_int <| wa_cons <| we_neg <| we_int ⟨_, rfl, wa_cons <| we_int <| wa_nil ⟨_, _, _, rfl, ?_⟩⟩⟩
  refine ⟨Nat.le_of_ble_eq_true rfl, we_var rfl ⟨c, plP T (stpT c), rfl, ?_, hk⟩⟩
  have h1 : ¬ (("e" : Str) = "n") := by decide +kernel
  have h2 : ¬ (("e" : Str) = "w") := by decide +kernel
  have h3 : ¬ (("e" : Str) = "s") := by decide +kernel
  have h4 : ¬ (("n" : Str) = "w") := by decide +kernel
  have h5 : ¬ (("n" : Str) = "s") := by decide +kernel
  have h6 : ¬ (("w" : Str) = "s") := by decide +kernel
  rcases mem_enws hc with rfl | rfl | rfl | rfl <;> simp [lookD, stpT, plP, d.1, d.2.1, d.2.2.1, d.2.2.2, h1, h2, h3, h4, h5, h6, Ne.symm h1, Ne.symm h2, Ne.symm h3, Ne.symm h4, Ne.symm h5, Ne.symm h6]
def pr_l_drawn (T : Tx K mg) : Pr := fun ds B k e => ds = [penF] ∧ B ≤ 700000 ∧ ∀ (p : T3) B', SzP' p → B' ≤ B + 80 → k (plP T p) B'
theorem okD_l_drawn (T : Tx K mg) : FnOk P w K mg base (L2.CX P w) 7 T.a_l_drawn T.d_l_drawn P_l_drawn (spD K (pr_l_drawn T)) := by
  refine T.F_l_drawn.okX sc_l_drawn (spD_len fun ds B k e h => by obtain ⟨rfl, hB, hk⟩ := h; rfl) (fun cdv A outer s H vs Q E hr h => ?_)
  have G_Place_init : FnOk P w K mg base (L2.CX P w) _ _ _ _ _ := okD_Place_init T
  have G_l_draw : FnOk P w K mg base (L2.CX P w) 1 _ _ _ _ := okD_l_draw T
  have G_l_place : FnOk P w K mg base (L2.CX P w) 6 _ _ _ _ := okD_l_place T
  have G_l_whole : FnOk P w K mg base (L2.CX P w) 3 _ _ _ _ := okD_l_whole T
  obtain ⟨G, ds, B, k, e, hs, hR, ⟨rfl, hB, hk⟩, hK, hX⟩ := h
  refine ⟨_, (pss_cons (ps_set (i := 1) sc_l_drawn.nd rfl (.inl rfl) (pe_call G_l_draw (hr.mono (by decide)) (by rfl) T.g_l_draw T.F_l_draw.kp T.b_l_draw .nil passL (pa_cons (pv 0) (pa_cons pe_int pa_nil))))
 (pss_cons (ps_if (pt_cmpR op_eq (pv 1) pe_int (nomark _))
 (pss_one (ps_ret (pe_call G_l_place (hr.mono (by decide)) (by rfl) T.g_l_place T.F_l_place.kp T.b_l_place .nil passL (pa_cons (pv 0) (pa_cons pe_int pa_nil)))))
 pss_nil)
 (pss_cons (ps_if (pt_cmpR op_eq (pv 1) pe_int (nomark _))
 (pss_one (ps_ret (pe_make T.M_Place G_Place_init (hr.mono (by decide)) (by rfl) T.g_C_Place T.b_Place_init .nil passL (pa_cons (pe_call G_l_whole (hr.mono (by decide)) (by rfl) T.g_l_whole T.F_l_whole.kp T.b_l_whole .nil passL (pa_cons (pv 0) (pa_cons (pe_op op_pow pe_int pe_int) pa_nil))) (pa_cons (pe_call G_l_whole (hr.mono (by decide)) (by rfl) T.g_l_whole T.F_l_whole.kp T.b_l_whole .nil passL (pa_cons (pv 0) (pa_cons (pe_op op_pow pe_int pe_int) pa_nil))) (pa_cons (pe_call G_l_whole (hr.mono (by decide)) (by rfl) T.g_l_whole T.F_l_whole.kp T.b_l_whole .nil passL (pa_cons (pv 0) (pa_cons (pe_op op_mulW (pe_op op_pow pe_int pe_int) (pe_op op_pow pe_int pe_int)) pa_nil))) pa_nil))))))
 pss_nil)
 (pss_cons (ps_if (pt_cmpR op_eq (pv 1) pe_int (nomark _))
 (pss_one (ps_ret (pe_make T.M_Place G_Place_init (hr.mono (by decide)) (by rfl) T.g_C_Place T.b_Place_init .nil passL (pa_cons (pe_call G_l_whole (hr.mono (by decide)) (by rfl) T.g_l_whole T.F_l_whole.kp T.b_l_whole .nil passL (pa_cons (pv 0) (pa_cons pe_int pa_nil))) (pa_cons (pe_call G_l_whole (hr.mono (by decide)) (by rfl) T.g_l_whole T.F_l_whole.kp T.b_l_whole .nil passL (pa_cons (pv 0) (pa_cons pe_int pa_nil))) (pa_cons (pe_call G_l_whole (hr.mono (by decide)) (by rfl) T.g_l_whole T.F_l_whole.kp T.b_l_whole .nil passL (pa_cons (pv 0) (pa_cons (pe_op op_mulW (pe_op op_pow pe_int pe_int) (pe_op op_pow pe_int pe_int)) pa_nil))) pa_nil))))))
 pss_nil)
 (pss_cons (ps_if (pt_cmpR op_eq (pv 1) pe_int (nomark _))
 (pss_one (ps_ret (pe_make T.M_Place G_Place_init (hr.mono (by decide)) (by rfl) T.g_C_Place T.b_Place_init .nil passL (pa_cons (pe_call G_l_whole (hr.mono (by decide)) (by rfl) T.g_l_whole T.F_l_whole.kp T.b_l_whole .nil passL (pa_cons (pv 0) (pa_cons (pe_op op_pow pe_int pe_int) pa_nil))) (pa_cons (pe_call G_l_whole (hr.mono (by decide)) (by rfl) T.g_l_whole T.F_l_whole.kp T.b_l_whole .nil passL (pa_cons (pv 0) (pa_cons pe_int pa_nil))) (pa_cons (pe_call G_l_whole (hr.mono (by decide)) (by rfl) T.g_l_whole T.F_l_whole.kp T.b_l_whole .nil passL (pa_cons (pv 0) (pa_cons (pe_op op_pow pe_int pe_int) pa_nil))) pa_nil))))))
 pss_nil)
 (pss_one (ps_ret (pe_call G_l_place (hr.mono (by decide)) (by rfl) T.g_l_place T.F_l_place.kp T.b_l_place .nil passL (pa_cons (pv 0) (pa_cons pe_int pa_nil)))))))))), run_body (ρ := [some penF, none]) hs hR hK hX rfl ?_⟩
  have b40 := bdp 40 140 (by decide)
  have b80 := bdp 80 345 (by decide)
  have b99 := bdp 99 345 (by decide)
  have b30 := bdp 30 140 (by decide)
  have b33 := bdp 33 345 (by decide)
  have b50 := bdp 50 345 (by decide)
  have b49 := bdp 49 345 (by decide)
  have e80 : (10 : Int) ^ 40 * (10 : Int) ^ 40 = (10 : Int) ^ 80 := by rw [← Int.pow_add]
  have e99 : (10 : Int) ^ 50 * (10 : Int) ^ 49 = (10 : Int) ^ 99 := by rw [← Int.pow_add]
  have b9 : ∀ {m : Nat}, 4 ≤ m → Bd m (9 : Int) := fun h => (show Bd 4 (9 : Int) by unfold Bd; decide).mono h
  refine ws_seq <| ws_asg <| we_call <| wa_cons <| we_var rfl <| wa_cons <| we_int <| wa_nil ⟨5, rfl, by decide, by decide, by omega, fun d d0 d1 => ?_⟩
  refine wg_name ?_
  refine ws_seq <| ws_if <| wt_test <| we_op <| we_var rfl <| we_int <| ro_eqI ⟨_, rfl, fun _ => ?_, fun _ => ws_next ?_⟩
  · exact ws_ret <| we_call <| wa_cons <| we_var rfl <| wa_cons <| we_int <| wa_nil ⟨4, rfl, by decide, by decide, by omega, fun p B' hp hB' => hk p B' hp (by omega)⟩
  refine ws_seq <| ws_if <| wt_test <| we_op <| we_var rfl <| we_int <| ro_eqI ⟨_, rfl, fun _ => ?_, fun _ => ws_next ?_⟩
  · refine ws_ret <| we_place T <| wa_cons <| we_call <| wa_cons <| we_var rfl <| wa_cons <| we_op <| we_int <| we_int <| ro_ten 40 (by decide) <| wa_nil ⟨_, rfl, ten_nn 40, b40.mono (by decide), by omega, fun x B1 x0 x1 hB1 => ?_⟩
    refine wa_cons <| we_call <| wa_cons <| we_var rfl <| wa_cons <| we_op <| we_int <| we_int <| ro_ten 40 (by decide) <| wa_nil ⟨_, rfl, ten_nn 40, b40.mono (by decide), by omega, fun y B2 y0 y1 hB2 => ?_⟩
    refine wa_cons <| we_call <| wa_cons <| we_var rfl <| wa_cons <| we_op <| we_op <| we_int <| we_int <| ro_ten 40 (by decide) <| we_op <| we_int <| we_int <| ro_ten 40 (by decide) <| ro_i (cmw (b40.mono (by decide)) (b40.mono (by decide))) ?_
    rw [e80]
    refine wa_nil ⟨_, rfl, ten_nn 80, b80.mono (by decide), by omega, fun a B3 a0 a1 hB3 => ?_⟩
    exact wa_nil ⟨x, y, a, rfl, hk (x, y, a) B3 ⟨bd_w x0 x1 b40, bd_w y0 y1 b40, bd_w a0 a1 b80⟩ (by omega)⟩
  refine ws_seq <| ws_if <| wt_test <| we_op <| we_var rfl <| we_int <| ro_eqI ⟨_, rfl, fun _ => ?_, fun _ => ws_next ?_⟩
  · refine ws_ret <| we_place T <| wa_cons <| we_call <| wa_cons <| we_var rfl <| wa_cons <| we_int <| wa_nil ⟨9, rfl, by decide, b9 (by decide), by omega, fun x B1 x0 x1 hB1 => ?_⟩
    refine wa_cons <| we_call <| wa_cons <| we_var rfl <| wa_cons <| we_int <| wa_nil ⟨9, rfl, by decide, b9 (by decide), by omega, fun y B2 y0 y1 hB2 => ?_⟩
    refine wa_cons <| we_call <| wa_cons <| we_var rfl <| wa_cons <| we_op <| we_op <| we_int <| we_int <| ro_ten 50 (by decide) <| we_op <| we_int <| we_int <| ro_ten 49 (by decide) <| ro_i (cmw (b50.mono (by decide)) (b49.mono (by decide))) ?_
    rw [e99]
    refine wa_nil ⟨_, rfl, ten_nn 99, b99.mono (by decide), by omega, fun a B3 a0 a1 hB3 => ?_⟩
    exact wa_nil ⟨x, y, a, rfl, hk (x, y, a) B3 ⟨bd_w x0 x1 (b9 (by decide)), bd_w y0 y1 (b9 (by decide)), bd_w a0 a1 b99⟩ (by omega)⟩
  refine ws_seq <| ws_if <| wt_test <| we_op <| we_var rfl <| we_int <| ro_eqI ⟨_, rfl, fun _ => ?_, fun _ => ws_next ?_⟩
  · refine ws_ret <| we_place T <| wa_cons <| we_call <| wa_cons <| we_var rfl <| wa_cons <| we_op <| we_int <| we_int <| ro_ten 30 (by decide) <| wa_nil ⟨_, rfl, ten_nn 30, b30.mono (by decide), by omega, fun x B1 x0 x1 hB1 => ?_⟩
    refine wa_cons <| we_call <| wa_cons <| we_var rfl <| wa_cons <| we_int <| wa_nil ⟨9, rfl, by decide, b9 (by decide), by omega, fun y B2 y0 y1 hB2 => ?_⟩
    refine wa_cons <| we_call <| wa_cons <| we_var rfl <| wa_cons <| we_op <| we_int <| we_int <| ro_ten 33 (by decide) <| wa_nil ⟨_, rfl, ten_nn 33, b33.mono (by decide), by omega, fun a B3 a0 a1 hB3 => ?_⟩
    exact wa_nil ⟨x, y, a, rfl, hk (x, y, a) B3 ⟨bd_w x0 x1 b30, bd_w y0 y1 (b9 (by decide)), bd_w a0 a1 b33⟩ (by omega)⟩
  exact ws_ret <| we_call <| wa_cons <| we_var rfl <| wa_cons <| we_int <| wa_nil ⟨30, rfl, by decide, by decide, by omega, fun p B' hp hB' => hk p B' hp (by omega)⟩
def pr_home_place (T : Tx K mg) : Pr := fun ds B k e => ds = [] ∧ k (pl T 0 0 0) B
theorem okD_home_place (T : Tx K mg) : FnOk P w K mg base (L2.CX P w) 6 T.a_home_place T.d_home_place P_home_place (spD K (pr_home_place T)) := by
  refine T.F_home_place.okX sc_home_place (spD_len fun ds B k e h => by obtain ⟨rfl, hk⟩ := h; rfl) (fun cdv A outer s H vs Q E hr h => ?_)
  have G_Place_init : FnOk P w K mg base (L2.CX P w) _ _ _ _ _ := okD_Place_init T
  obtain ⟨G, ds, B, k, e, hs, hR, ⟨rfl, hk⟩, hK, hX⟩ := h
  refine ⟨_, (pss_one (ps_ret (pe_make T.M_Place G_Place_init (hr.mono (by decide)) (by rfl) T.g_C_Place T.b_Place_init .nil passL (pa_cons pe_int (pa_cons pe_int (pa_cons pe_int pa_nil)))))), run_body (ρ := []) hs hR hK hX rfl ?_⟩
  exact ws_ret <| we_place T <| wa_cons <| we_int <| wa_cons <| we_int <| wa_cons <| we_int <| wa_nil ⟨_, _, _, rfl, hk⟩
end
end AW

set_option linter.all false
set_option maxRecDepth 100000
set_option maxHeartbeats 8000000
namespace AW
open PySem PySem.Spec PyProof.Rows L2 LamX Fewest
variable [Tbs]
section
variable {P : Program} {w : World} {K : PySem.W.Frag} {mg : Str → Option Value} {base : Heap} [CDict K w "DIRECTIONS" L_DIRECTIONS]
theorem dxy : (dx "e" = 1 ∧ dy "e" = 0) ∧ (dx "w" = -1 ∧ dy "w" = 0) ∧ (dx "n" = 0 ∧ dy "n" = 1) ∧ (dx "s" = 0 ∧ dy "s" = -1) := by decide +kernel
theorem mv_e (p : T3) : mvS "e" p = (p.1 + 1, p.2.1, p.2.2) := by unfold mvS; rw [dxy.1.1, dxy.1.2]; simp
theorem mv_w (p : T3) : mvS "w" p = (p.1 + -1, p.2.1, p.2.2) := by unfold mvS; rw [dxy.2.1.1, dxy.2.1.2]; simp
theorem mv_n (p : T3) : mvS "n" p = (p.1, p.2.1 + 1, p.2.2 + p.1 * 1) := by unfold mvS; rw [dxy.2.2.1.1, dxy.2.2.1.2]; simp
theorem mv_s (p : T3) : mvS "s" p = (p.1, p.2.1 - 1, p.2.2 - p.1 * 1) := by unfold mvS; rw [dxy.2.2.2.1, dxy.2.2.2.2]; simp only [Int.add_zero, Int.zero_mul, Int.mul_one, Prod.mk.injEq, true_and]; omega
theorem stF_mv {p : T3} {c : Str} (hc : c ∈ chS "enws") : stF (mvS c p) = stF p + 1 ∨ stF (mvS c p) = stF p - 1 := by
  have h := stF_st p
  have g := stF_st (mvS c p)
  rcases mem_enws hc with rfl | rfl | rfl | rfl
  · rw [mv_e] at g ⊢; exact h.e g
  · rw [mv_n] at g ⊢
    simp only [Int.mul_one] at g ⊢
    exact h.n g
  · rw [mv_w] at g ⊢
    exact h.w (by rw [Int.sub_eq_add_neg]; exact g)
  · rw [mv_s] at g ⊢
    simp only [Int.mul_one] at g ⊢
    exact h.s g
theorem flt16 (f : Str → Bool) : chS (Txt.join "" ((chS "enws").filter f)) = (chS "enws").filter f ∧ decide (Txt.join "" ((chS "enws").filter f) = "enws") = decide (((chS "enws").filter f).length = 4) ∧ decide (Txt.join "" ((chS "enws").filter f) = "") = ((chS "enws").filter f).isEmpty ∧ (Txt.join "" ((chS "enws").filter f)).length = ((chS "enws").filter f).length := by
  rw [chS_enws]
  cases h1 : f "e" <;> cases h2 : f "n" <;> cases h3 : f "w" <;> cases h4 : f "s" <;> simp only [List.filter_cons, List.filter_nil, h1, h2, h3, h4, if_true, if_false, Bool.false_eq_true] <;> decide +kernel
theorem near_home_iff (p : T3) : decide (Txt.join "" (nearS p) = "") = decide (p = (0, 0, 0)) := by
  have h := (flt16 (fun c => decide (stF (mvS c p) < stF p))).2.2.1
  have h : decide (Txt.join "" (nearS p) = "") = (nearS p).isEmpty := h
  rw [h]
  by_cases z : p = (0, 0, 0)
  · rw [decide_eq_true z]
    rw [List.isEmpty_iff]
    refine List.filter_eq_nil_iff.mpr fun c hc => ?_
    have h0 : stF p = 0 := by rw [z]; exact st_home0
    have := st_nn (mvS c p)
    simp only [decide_eq_true_eq]
    omega
  · rw [decide_eq_false z]
    have nz : ¬(p.1 = 0 ∧ p.2.1 = 0 ∧ p.2.2 = 0) := fun h => z (by obtain ⟨a, b, c⟩ := p; obtain ⟨rfl, rfl, rfl⟩ := h; rfl)
    have hm : ∀ c : Str, (c = "e" ∨ c = "n" ∨ c = "w" ∨ c = "s") → c ∈ chS "enws" := fun c hc => by rw [chS_enws]; simpa using hc
    have key : ∃ c ∈ chS "enws", stF (mvS c p) < stF p := by
      rcases (stF_st p).nearer nz (stF_st (p.1 + 1, p.2.1, p.2.2)) (stF_st (p.1 - 1, p.2.1, p.2.2)) (stF_st (p.1, p.2.1 + 1, p.2.2 + p.1)) (stF_st (p.1, p.2.1 - 1, p.2.2 - p.1)) with g | g | g | g
      · exact ⟨"e", hm _ (by simp), by rw [mv_e]; omega⟩
      · exact ⟨"w", hm _ (by simp), by rw [mv_w, ← Int.sub_eq_add_neg]; omega⟩
      · exact ⟨"n", hm _ (by simp), by rw [mv_n, Int.mul_one]; omega⟩
      · exact ⟨"s", hm _ (by simp), by rw [mv_s, Int.mul_one]; omega⟩
    obtain ⟨c, hc, hlt⟩ := key
    have : c ∈ nearS p := List.mem_filter.mpr ⟨hc, decide_eq_true hlt⟩
    cases e : nearS p with
    | nil => rw [e] at this; cases this
    | cons a r => rfl
theorem SzP'.pl {p : T3} (s : SzP' p) : PlB p := ⟨s.x.mono (by decide), s.y.mono (by decide), s.a.mono (by decide)⟩
noncomputable def nbF (p : T3) (c : Str) : Bool := decide (stF (mvS c p) < stF p)
def ntF (f : Str → Bool) (i : Nat) : Str := ((chS "enws").take i).foldl (fun s c => s ++ (if f c then c else "")) ""
theorem ntF_end (f : Str → Bool) : ntF f (chS "enws").length = Txt.join "" ((chS "enws").filter f) := by
  unfold ntF
  rw [chS_enws]
  cases h1 : f "e" <;> cases h2 : f "n" <;> cases h3 : f "w" <;> cases h4 : f "s" <;> simp only [List.take, List.length_cons, List.length_nil, List.foldl_cons, List.foldl_nil, List.filter_cons, List.filter_nil, h1, h2, h3, h4, if_true, if_false, Bool.false_eq_true] <;> decide +kernel
theorem ntF_len (f : Str → Bool) {i : Nat} (hi : i < 4) : (ntF f i).length ≤ 4 := by
  unfold ntF
  rw [chS_enws]
  have : i = 0 ∨ i = 1 ∨ i = 2 ∨ i = 3 := by omega
  rcases this with rfl | rfl | rfl | rfl <;> cases h1 : f "e" <;> cases h2 : f "n" <;> cases h3 : f "w" <;> simp only [List.take, List.foldl_cons, List.foldl_nil, h1, h2, h3, if_true, if_false, Bool.false_eq_true] <;> decide +kernel
theorem ntF_succ (f : Str → Bool) {i : Nat} {c : Str} (h : (chS "enws")[i]? = some c) : ntF f (i + 1) = ntF f i ++ (if f c then c else "") := by
  unfold ntF
  rw [List.take_succ, h, Option.toList_some, List.foldl_append]
  rfl
def pr_l_local_right (T : Tx K mg) : Pr := fun ds B k e => ∃ p : T3, ds = [plP T p] ∧ SzP' p ∧ k (.bl true) B
theorem okD_l_local_right (T : Tx K mg) : FnOk P w K mg base (L2.CX P w) 10 T.a_l_local_right T.d_l_local_right P_l_local_right (spD K (pr_l_local_right T)) := by
  refine T.F_l_local_right.okX sc_l_local_right (spD_len fun ds B k e h => by obtain ⟨p, rfl, sz, hk⟩ := h; rfl) (fun cdv A outer s H vs Q E hr h => ?_)
  have G_Place_invert : FnOk P w K mg base (L2.CX P w) 6 _ _ _ _ := okD_Place_invert T
  have G_Place_mul : FnOk P w K mg base (L2.CX P w) 6 _ _ _ _ := okD_Place_mul T
  have G_first_letters : FnOk P w K mg base (L2.CX P w) 8 _ _ _ _ := okD_first_letters T
  have G_is_summit : FnOk P w K mg base (L2.CX P w) 9 _ _ _ _ := okD_is_summit T
  have G_l_step : FnOk P w K mg base (L2.CX P w) 6 _ _ _ _ := okD_l_step T
  have G_nearer : FnOk P w K mg base (L2.CX P w) 8 _ _ _ _ := okD_nearer T
  have G_steps : FnOk P w K mg base (L2.CX P w) 4 _ _ _ _ := okD_steps T
  obtain ⟨G, ds, B, k, e, hs, hR, ⟨p, rfl, sz, hk⟩, hK, hX⟩ := h
  refine ⟨_, (pss_cons (ps_asg (pe_tup (pa_cons (pe_call G_steps (hr.mono (by decide)) (by rfl) T.g_steps T.F_steps.kp T.b_steps .nil passL (pa_cons (pv 0) pa_nil)) (pa_cons pe_str pa_nil))) (pg_tup rfl (pgs_cons (pg_name (i := 1) sc_l_local_right.nd rfl (.inr rfl)) (pgs_cons (pg_name (i := 2) sc_l_local_right.nd rfl (.inl rfl)) pgs_nil))))
 (pss_cons (ps_for (passes_of rfl) rfl (pi_str pe_str) (pg_name (i := 3) sc_l_local_right.nd rfl (.inl rfl))
 (pss_cons (ps_set (i := 4) sc_l_local_right.nd rfl (.inl rfl) (pe_call G_steps (hr.mono (by decide)) (by rfl) T.g_steps T.F_steps.kp T.b_steps .nil passL (pa_cons (pe_op (op_ownO T.O_Place_Mult G_Place_mul (hr.mono (by decide)) T.b_Place_mul passL) (pv 0) (pe_call G_l_step (hr.mono (by decide)) (by rfl) T.g_l_step T.F_l_step.kp T.b_l_step .nil passL (pa_cons (pv 3) pa_nil))) pa_nil)))
 (pss_cons (ps_if (pt_cmpR op_ne (pe_callB call_abs (by rfl) T.n_abs (by decide +kernel) (pa_cons (pe_op op_sub (pv 4) (pv 1)) pa_nil)) pe_int (nomark _))
 (pss_one (ps_ret pe_bl))
 pss_nil)
 (pss_one (ps_set (i := 2) sc_l_local_right.nd rfl (.inl rfl) (pe_op op_add_str (pv 2) (pe_ifExp (pt_cmpR op_lt (pv 4) (pv 1) (nomark _)) (pv 3) pe_str)))))))
 (pss_cons (ps_if (PW.pt (pw_or (pt_cmpR op_ne (pe_call G_nearer (hr.mono (by decide)) (by rfl) T.g_nearer T.F_nearer.kp T.b_nearer .nil passL (pa_cons (pv 0) pa_nil)) (pv 2) (nomark _)) (pw_or1 (pt_cmpR op_ne (pe_call G_is_summit (hr.mono (by decide)) (by rfl) T.g_is_summit T.F_is_summit.kp T.b_is_summit .nil passL (pa_cons (pv 0) pa_nil)) (pe_cmpR op_eq (pe_callB call_len_str (by rfl) T.n_len (by decide +kernel) (pa_cons (pv 2) pa_nil)) pe_int (nomark _)) (nomark _)))))
 (pss_one (ps_ret pe_bl))
 pss_nil)
 (pss_cons (ps_set (i := 5) sc_l_local_right.nd rfl (.inl rfl) (pe_join pe_str (pe_lc (tt := (tTest (tOp (rI0 fun i j => V.bl (decide (i < j))) (tCall (spD K (pr_steps T)) [] E0 (tCons (tOp (rOpO K T.C_Place .Mult (spD K (pr_Place_mul T)) E0) (tUn (rUnO T.C_Place (spD K (pr_Place_invert T)) E0) (tCall (spD K (pr_l_step T)) [] E0 (tCons (tVar 3) tNil))) (tVar 0)) tNil)) (tVar 1)))) (te := (tVar 3)) (own := [("_law_letter", 3)]) (g := gName 3) (by rfl) sc_l_local_right.nd (pi_str pe_str) (blkOk_by (own := [("_law_letter", 3)]) (N := N_l_local_right) (sc := defScope s_l_local_right) (by decide +kernel)) (fun _ _ _ _ _ => pg_name (i := 3) sc_l_local_right.nd rfl (Or.inl rfl)) (fun _ _ _ _ _ => (pts_one (pt_cmpR op_lt (pe_call G_steps (hr.mono (by decide)) (by rfl) T.g_steps T.F_steps.kp T.b_steps .nil passL (pa_cons (pe_op (op_ownO T.O_Place_Mult G_Place_mul (hr.mono (by decide)) T.b_Place_mul passL) (pe_un (un_invO T.m_Place_invert T.i_Place_invert G_Place_invert (hr.mono (by decide)) T.b_Place_invert passL) (pe_call G_l_step (hr.mono (by decide)) (by rfl) T.g_l_step T.F_l_step.kp T.b_l_step .nil passL (pa_cons (pv 3) pa_nil))) (pv 0)) pa_nil)) (pv 1) (nomark _)))) (fun _ _ _ _ _ => (pv 3)))))
 (pss_one (ps_ret (pe_and (pe_cmpR op_eq (pe_call G_first_letters (hr.mono (by decide)) (by rfl) T.g_first_letters T.F_first_letters.kp T.b_first_letters .nil passL (pa_cons (pv 0) pa_nil)) (pv 5) (nomark _)) (pe_one (pe_cmpR op_eq (pe_cmpR op_eq (pv 1) pe_int (nomark _)) (pe_cmpR op_eq (pv 2) pe_str (nomark _)) (nomark _)))))))))), run_body (ρ := [some (plP T p), none, none, none, none, none]) hs hR hK hX rfl ?_⟩
  have pb := sz.pl
  have b3 : Bd 1000 p.1 ∧ Bd 1000 p.2.1 ∧ Bd 1000 p.2.2 := pb
  have z2 : 2 ≤ sizeLine := by decide
  have zs : 100 ≤ sizeLine := by decide
  have l4 : (chS "enws").length = 4 := by rw [chS_enws]; rfl
  have hlen : decide (Txt.join "" (nearS p) = "enws") = decide ((nearS p).length = 4) ∧ decide (Txt.join "" (nearS p) = "") = (nearS p).isEmpty ∧ (Txt.join "" (nearS p)).length = (nearS p).length := (flt16 (fun c => decide (stF (mvS c p) < stF p))).2
  have hsum : decide (Txt.join "" (nearS p) = "enws") = decide ((Txt.join "" (nearS p)).length = 4) := by rw [hlen.2.2]; exact hlen.1
  have hl4 : (Txt.join "" (nearS p)).length ≤ 4 := by rw [hlen.2.2]; exact Nat.le_trans (List.length_filter_le _ _) (by rw [l4]; exact Nat.le_refl _)
  refine ws_seq <| ws_asg <| we_tup <| wa_cons <| we_call <| wa_cons <| we_var rfl <| wa_nil ⟨_, rfl, .inl ⟨p, rfl, b3.1.mono (by decide), b3.2.1.mono (by decide), b3.2.2.mono (by decide), wa_cons <| we_str <| wa_nil ⟨z2, wg_tup rfl <| wgs_cons <| wg_name <| wgs_cons <| wg_name <| wgs_nil ?_⟩⟩⟩
  refine ws_seq <| ws_for_str <| we_str ⟨_, rfl, fun i ρ' B' => ∃ o1 o2 : Option D, ρ' = [some (plP T p), some (.int (stF p)), some (.str (ntF (nbF p) i)), o1, o2, none] ∧ B' = B, ⟨_, _, rfl, rfl⟩, fun i c ρ' B' hi hI => ?_, fun ρ' B' hI => ?_⟩
  · obtain ⟨o1, o2, rfl, rfl⟩ := hI
    have hc : c ∈ chS "enws" := List.mem_of_getElem? hi
    have hi4 : i < 4 := by have := (List.getElem?_eq_some_iff.mp hi).1; omega
    have hm := mv_bd (c := c) b3 (by decide)
    have hn := ntF_len (nbF p) hi4
    have hs := ntF_succ (nbF p) hi
    have c1 : c.length ≤ 4 := by rcases mem_enws hc with rfl | rfl | rfl | rfl <;> decide +kernel
    refine wg_name ?_
    refine ws_seq <| ws_asg <| we_call <| wa_cons <| we_op <| we_var rfl <| we_call <| wa_cons <| we_var rfl <| wa_nil ⟨c, rfl, hc, ro_own T ⟨_, _, _, _, _, _, rfl, cmw (b3.1.mono (by decide)) ((dir_bd1 (c := c)).2.mono (by decide)), wa_nil ⟨_, rfl, .inl ⟨mvS c p, rfl, hm.1.mono (by decide), hm.2.1.mono (by decide), hm.2.2.mono (by decide), wg_name ?_⟩⟩⟩⟩
    refine ws_seq <| ws_if <| wt_test <| we_op <| we_abs <| wa_cons <| we_op <| we_var rfl <| we_var rfl <| ro_i0 <| wa_nil ⟨_, rfl, we_int <| ro_neI ⟨_, rfl, fun h => ?_, fun _ => ws_next ?_⟩⟩
    · exfalso
      have h : ¬ _ := of_decide_eq_false (by simpa using h)
      rcases stF_mv (p := p) hc with e | e <;> (apply h; split <;> omega)
    refine ws_asg <| we_op <| we_var rfl <| we_ifE <| wt_test <| we_op <| we_var rfl <| we_var rfl <| ro_b0 ⟨_, rfl, fun h => ?_, fun h => ?_⟩
    · have e : nbF p c = true := h
      rw [e, if_pos rfl] at hs
      exact we_var rfl <| ro_addS (by omega) <| wg_name ⟨_, _, by rw [hs]; rfl, rfl⟩
    · have e : nbF p c = false := h
      rw [e] at hs
      exact we_str <| ro_addS (by have : ("" : Str).length = 0 := rfl; omega) <| wg_name ⟨_, _, by rw [hs]; rfl, rfl⟩
  obtain ⟨o1, o2, rfl, rfl⟩ := hI
  rw [ntF_end, show (chS "enws").filter (nbF p) = nearS p from rfl]
  refine ws_seq <| ws_if <| wt_or <| wt_test <| we_op <| we_call <| wa_cons <| we_var rfl <| wa_nil ⟨_, rfl, .inl ⟨p, rfl, pb, we_var rfl <| ro_neSt ⟨_, rfl, fun h => ?_, fun _ => ?_⟩⟩⟩
  · exact neA rfl h
  refine wt_test <| we_op <| we_call <| wa_cons <| we_var rfl <| wa_nil ⟨_, rfl, .inl ⟨p, rfl, pb, we_op <| we_lenStr <| wa_cons <| we_var rfl <| wa_nil ⟨_, rfl, Nat.le_trans hl4 (by omega), we_int <| ro_eqI <| ro_neB ⟨_, rfl, fun h => ?_, fun _ => ws_next ?_⟩⟩⟩⟩
  · refine neA ?_ h
    rw [hsum]
    congr 1
    exact propext ⟨fun z => by show ((Txt.join "" (nearS p)).length : Int) = 4; omega, fun z => by have z : ((Txt.join "" (nearS p)).length : Int) = 4 := z; omega⟩
  refine ws_seq <| ws_asg <| we_join <| we_str ⟨_, rfl, we_lc_strF (E1 := E0) <| we_str ⟨"enws", (fun c => decide (stF (bkS c p) < stF p)), D.str, rfl, by rw [chS_enws]; decide, fun c hc kb hkb => ?_, fun c hc _ k' hk' => we_var rfl hk', _, rfl, join_sz _, wg_name ?_⟩⟩
  · have hm := bk_bd (c := c) b3 (by decide)
    exact wt_test <| we_op <| we_call <| wa_cons <| we_op <| we_inv T <| we_call <| wa_cons <| we_var rfl <| wa_nil ⟨c, rfl, hc, _, _, _, rfl, _, _, _, rfl, cmw ((dir_bd1 (c := c)).1.mono (by decide)) ((dir_bd1 (c := c)).2.mono (by decide)), we_var rfl <| ro_own T ⟨_, _, _, _, _, _, rfl, cmw ((dir_bd1 (c := c)).1.neg.mono (by decide)) (b3.2.1.mono (by decide)), wa_nil ⟨_, rfl, .inl ⟨bkS c p, rfl, hm.1.mono (by decide), hm.2.1.mono (by decide), hm.2.2.mono (by decide), we_var rfl <| ro_b0 ⟨_, rfl, hkb⟩⟩⟩⟩⟩
  have hfin : decide (decide (stF p = 0) = decide (Txt.join "" (nearS p) = "")) = true := by
    refine decide_eq_true ?_
    rw [near_home_iff]
    congr 1
    exact propext (st_home p)
  refine ws_ret <| we_and <| we_op <| we_call <| wa_cons <| we_var rfl <| wa_nil ⟨_, rfl, .inl ⟨p, rfl, pb, we_var rfl <| ro_eqS ⟨_, rfl, fun _ => ?_, fun h => ?_⟩⟩⟩
  · refine we_op <| we_op <| we_var rfl <| we_int <| ro_eqI <| we_op <| we_var rfl <| we_str <| ro_eqS <| ro_eqB ?_
    have hk := hk
    rw [← hfin] at hk
    exact hk
  · exact absurd rfl (of_decide_eq_false h)
end
end AW

set_option linter.all false
set_option maxRecDepth 100000
set_option maxHeartbeats 8000000
namespace AW
open PySem PySem.Spec PyProof.Rows L2 LamX Fewest
variable [Tbs]
section
variable {P : Program} {w : World} {K : PySem.W.Frag} {mg : Str → Option Value} {base : Heap} [CDict K w "DIRECTIONS" L_DIRECTIONS]
theorem sumR_cnt : ∀ {ps : List Rn}, GoodR ps → sumR ps = cnt "e" ps + cnt "n" ps + cnt "w" ps + cnt "s" ps
  | [], _ => rfl
  | p :: ps, h => by
    obtain ⟨m1, m2, m3, m4, m5, m6⟩ := str_ne
    have e : sumR (p :: ps) = p.2 + sumR ps := by simp [sumR]
    rw [e, sumR_cnt h.tail, cnt_cons, cnt_cons, cnt_cons, cnt_cons]
    have hm := (h p (List.mem_cons_self ..)).1
    obtain ⟨c, t⟩ := p
    rcases mem_enws hm with hc | hc | hc | hc <;> (have hc : c = _ := hc; subst hc; simp only [m1, m2, m3, m4, m5, m6, Ne.symm m1, Ne.symm m2, Ne.symm m3, Ne.symm m4, Ne.symm m5, Ne.symm m6, if_true, if_false]; try omega)
theorem prc_all (t : Int) {qs : List Rn} (g : GoodR qs) : prcR t t t t qs = t * sumR qs := by
  rw [sumR_cnt g]; unfold prcR; grind
theorem isl_all {t v : Int} {p : T3} (t0 : 0 ≤ t) (h : IsL t t t t p v) : v = t * stF p := by
  obtain ⟨⟨qs, g, e, ev⟩, l⟩ := h
  obtain ⟨g1, s1, p1, _⟩ := lwF_ok p
  have h1 := l _ g1 p1
  rw [prc_all t g1, s1] at h1
  have h2 := st_walk g
  rw [e] at h2
  have h3 := Int.mul_le_mul_of_nonneg_left h2 t0
  rw [prc_all t g] at ev
  omega
theorem spot_ok (p : T3) {m : Int} (h0 : 0 ≤ m) (h1 : m ≤ stF p) : stF (posF (joinF (hF (lwF p) m))) = m ∧ stF (apF (posF (joinF (hF (lwF p) m))) p) = stF p - m := by
  have e : lwF (apF (0, 0, 0) p) = lwF p := by rw [apF_home]
  have h := mid_ok (0, 0, 0) p h0 (by rw [apF_home]; exact h1)
  unfold midF at h
  rw [e, (mu_home _).2, apF_home, apF_home] at h
  exact h
theorem spot_wk (p : T3) {m : Int} (h0 : 0 ≤ m) (h1 : m ≤ stF p) (hb : Bd 1000 (stF p)) : WkB (joinF (hF (lwF p) m)) := by
  obtain ⟨g1, g2, g3, g4⟩ := lwF_ok p
  have hh := hL_good g1 h0
  have e := joinF_len (hL (lwF p) m)
  have e2 := hL_len (lwF p) m
  rw [hF_eq]
  refine ⟨joinF_good hh, by omega, ?_⟩
  rw [joinF_sum hh, hL_sum g1 h0 (by rw [g2]; exact h1)]
  unfold Bd at *
  omega
theorem bd00 {k : Nat} : Bd k 0 := Nat.two_pow_pos k
def pr_l_walks_right (T : Tx K mg) : Pr := fun ds B k e => ∃ p : T3, ds = [penF, plP T p] ∧ SzP' p ∧ B ≤ 600000 ∧ ∀ B', B' ≤ B + 40 → k (.bl true) B'
theorem okD_l_walks_right (T : Tx K mg) : FnOk P w K mg base (L2.CX P w) 12 T.a_l_walks_right T.d_l_walks_right P_l_walks_right (spD K (pr_l_walks_right T)) := by
  refine T.F_l_walks_right.okX sc_l_walks_right (spD_len fun ds B k e h => by obtain ⟨p, rfl, sz, hB, hk⟩ := h; rfl) (fun cdv A outer s H vs Q E hr h => ?_)
  have G_Place_eq : FnOk P w K mg base (L2.CX P w) _ _ _ _ _ := okD_Place_eq T
  have G_Prices_init : FnOk P w K mg base (L2.CX P w) 4 _ _ _ _ := okD_Prices_init T
  have G_Prices_least_price : FnOk P w K mg base (L2.CX P w) 7 _ _ _ _ := okD_Prices_least_price T
  have G_Walk_at : FnOk P w K mg base (L2.CX P w) 9 _ _ _ _ := okD_Walk_at T
  have G_Walk_is_least : FnOk P w K mg base (L2.CX P w) 7 _ _ _ _ := okD_Walk_is_least T
  have G_Walk_length : FnOk P w K mg base (L2.CX P w) 1 _ _ _ _ := okD_Walk_length T
  have G_Walk_place : FnOk P w K mg base (L2.CX P w) 6 _ _ _ _ := okD_Walk_place T
  have G_areas : FnOk P w K mg base (L2.CX P w) 5 _ _ _ _ := okD_areas T
  have G_distance : FnOk P w K mg base (L2.CX P w) 8 _ _ _ _ := okD_distance T
  have G_home_place : FnOk P w K mg base (L2.CX P w) 6 _ _ _ _ := okD_home_place T
  have G_l_big : FnOk P w K mg base (L2.CX P w) 2 _ _ _ _ := okD_l_big T
  have G_l_draw : FnOk P w K mg base (L2.CX P w) 1 _ _ _ _ := okD_l_draw T
  have G_least_walk : FnOk P w K mg base (L2.CX P w) 9 _ _ _ _ := okD_least_walk T
  have G_lies_between : FnOk P w K mg base (L2.CX P w) 9 _ _ _ _ := okD_lies_between T
  have G_steps : FnOk P w K mg base (L2.CX P w) 4 _ _ _ _ := okD_steps T
  have G_walk_of : FnOk P w K mg base (L2.CX P w) 9 _ _ _ _ := okD_walk_of T
  obtain ⟨G, ds, B, k, e, hs, hR, ⟨p, rfl, sz, hB, hk⟩, hK, hX⟩ := h
  refine ⟨_, (pss_cons (ps_par (i := 2) (j := 3) (by rfl) sc_l_walks_right.nd rfl rfl (by decide) rfl rfl (pa_cons (pe_call G_steps (hr.mono (by decide)) (by rfl) T.g_steps T.F_steps.kp T.b_steps .nil passL (pa_cons (pv 1) pa_nil)) (pa_cons (pe_call G_least_walk (hr.mono (by decide)) (by rfl) T.g_least_walk T.F_least_walk.kp T.b_least_walk .nil passL (pa_cons (pv 1) pa_nil)) pa_nil)) (by rfl))
 (pss_cons (ps_if (PW.pt (pw_or (pt_cmpR (op_neO T.E_Place G_Place_eq (hr.mono (by decide)) T.b_Place_eq passL) (pe_meth0 (pv 3) T.cl_Walk T.M_Walk_place G_Walk_place (hr.mono (by decide)) T.b_Walk_place .nil passL) (pv 1) (nomark _)) (pw_or (pt_cmpR op_ne (pe_prop (pv 3) T.cl_Walk T.Q_Walk_length G_Walk_length (hr.mono (by decide)) T.b_Walk_length .nil passL rfl) (pv 2) (nomark _)) (pw_or (pt_cmpR op_gt (pe_callB call_len_seq (by rfl) T.n_len (by decide +kernel) (pa_cons (pe_fld (pv 3) rfl) pa_nil)) pe_int (nomark _)) (pw_or1 (pt_not (pt_val (pe_meth0 (pv 3) T.cl_Walk T.M_Walk_is_least G_Walk_is_least (hr.mono (by decide)) T.b_Walk_is_least .nil passL))))))))
 (pss_one (ps_ret pe_bl))
 pss_nil)
 (pss_cons (ps_if (PW.pt (pw_or (pt_cmpR op_ne (pe_meth (pe_make T.M_Prices G_Prices_init (hr.mono (by decide)) (by rfl) T.g_C_Prices T.b_Prices_init .nil passL (pa_cons pe_int (pa_cons pe_int (pa_cons pe_int (pa_cons pe_int pa_nil))))) T.cl_Prices T.M_Prices_least_price G_Prices_least_price (hr.mono (by decide)) T.b_Prices_least_price .nil passL (pa_cons (pv 1) pa_nil)) (pv 2) (nomark _)) (pw_or1 (pt_cmpR op_ne (pe_call G_distance (hr.mono (by decide)) (by rfl) T.g_distance T.F_distance.kp T.b_distance .nil passL (pa_cons (pe_call0 G_home_place (hr.mono (by decide)) (by rfl) T.g_home_place T.F_home_place.kp T.b_home_place .nil passL) (pa_cons (pv 1) pa_nil))) (pv 2) (nomark _)))))
 (pss_one (ps_ret pe_bl))
 pss_nil)
 (pss_cons (ps_set (i := 4) sc_l_walks_right.nd rfl (.inl rfl) (pe_call G_l_big (hr.mono (by decide)) (by rfl) T.g_l_big T.F_l_big.kp T.b_l_big .nil passL (pa_cons (pv 0) (pa_cons (pe_op op_add (pv 2) pe_int) pa_nil))))
 (pss_cons (ps_set (i := 5) sc_l_walks_right.nd rfl (.inl rfl) (pe_meth (pv 3) T.cl_Walk T.M_Walk_at G_Walk_at (hr.mono (by decide)) T.b_Walk_at .nil passL (pa_cons (pv 4) pa_nil)))
 (pss_cons (ps_if (PW.pt (pw_or (pt_cmpR op_ne (pe_call G_steps (hr.mono (by decide)) (by rfl) T.g_steps T.F_steps.kp T.b_steps .nil passL (pa_cons (pv 5) pa_nil)) (pv 4) (nomark _)) (pw_or (pt_not (pt_val (pe_call G_lies_between (hr.mono (by decide)) (by rfl) T.g_lies_between T.F_lies_between.kp T.b_lies_between .nil passL (pa_cons (pv 5) (pa_cons (pe_call0 G_home_place (hr.mono (by decide)) (by rfl) T.g_home_place T.F_home_place.kp T.b_home_place .nil passL) (pa_cons (pv 1) pa_nil)))))) (pw_or1 (pt_cmpR op_ne (pe_call G_distance (hr.mono (by decide)) (by rfl) T.g_distance T.F_distance.kp T.b_distance .nil passL (pa_cons (pv 5) (pa_cons (pv 1) pa_nil))) (pe_op op_sub (pv 2) (pv 4)) (nomark _))))))
 (pss_one (ps_ret pe_bl))
 pss_nil)
 (pss_cons (ps_for (passes_of rfl) rfl (pi_list (pe_lst (pa_cons (pe_un un_neg pe_int) (pa_cons (pe_un un_neg pe_int) (pa_cons pe_int (pa_cons pe_int (pa_cons pe_int (pa_cons (pe_op op_mul pe_int (pe_call G_l_draw (hr.mono (by decide)) (by rfl) T.g_l_draw T.F_l_draw.kp T.b_l_draw .nil passL (pa_cons (pv 0) (pa_cons pe_int pa_nil)))) pa_nil)))))))) (pg_name (i := 6) sc_l_walks_right.nd rfl (.inl rfl))
 (pss_cons (ps_if (pt_cmpR op_lt (pe_op op_add (pv 2) (pv 6)) pe_int (nomark _))
 (pss_one ps_continue)
 pss_nil)
 (pss_cons (ps_par (i := 7) (j := 8) (by rfl) sc_l_walks_right.nd rfl rfl (by decide) rfl rfl (pa_cons (pe_call G_walk_of (hr.mono (by decide)) (by rfl) T.g_walk_of T.F_walk_of.kp T.b_walk_of .nil passL (pa_cons (pv 1) (pa_cons (pe_op op_add (pv 2) (pv 6)) pa_nil))) (pa_cons (pe_call G_areas (hr.mono (by decide)) (by rfl) T.g_areas T.F_areas.kp T.b_areas .nil passL (pa_cons (pe_fld (pv 1) rfl) (pa_cons (pe_fld (pv 1) rfl) (pa_cons (pe_op op_add (pv 2) (pv 6)) pa_nil)))) pa_nil)) (by rfl))
 (pss_cons (ps_set (i := 9) sc_l_walks_right.nd rfl (.inl rfl) (pe_and (pe_cmp (pc_notN (pv 8)) rfl) (pe_one (pe_chain op_le op_le (pe_ix ix_tup (pv 8) pe_int (fun _ _ => rfl)) (pe_fld (pv 1) rfl) (pe_ix ix_tup (pv 8) pe_int (fun _ _ => rfl))))))
 (pss_cons (ps_if (PW.pt (pw_or (pt_cmpR op_ne (pv 9) (pe_cmp (pc_notN (pv 7)) rfl) (nomark _)) (pw_or1 (pt_cmpR op_ne (pv 9) (pe_and (pe_cmpR op_ge (pv 6) pe_int (nomark _)) (pe_one (pe_cmpR op_eq (pe_op op_modN (pe_callTy call_int1 (by rfl) T.n_int (by decide +kernel) (pa_cons (pv 6) pa_nil)) pe_int) pe_int (nomark _)))) (nomark _)))))
 (pss_one (ps_ret pe_bl))
 pss_nil)
 (pss_cons (ps_if (pt_cmp (pc_isN (pv 7)))
 (pss_one ps_continue)
 pss_nil)
 (pss_one (ps_if (PW.pt (pw_or (pt_cmpR (op_neO T.E_Place G_Place_eq (hr.mono (by decide)) T.b_Place_eq passL) (pe_meth0 (pv 7) T.cl_Walk T.M_Walk_place G_Walk_place (hr.mono (by decide)) T.b_Walk_place .nil passL) (pv 1) (nomark _)) (pw_or (pt_cmpR op_ne (pe_prop (pv 7) T.cl_Walk T.Q_Walk_length G_Walk_length (hr.mono (by decide)) T.b_Walk_length .nil passL rfl) (pe_op op_add (pv 2) (pv 6)) (nomark _)) (pw_or1 (pt_cmpR op_gt (pe_callB call_len_seq (by rfl) T.n_len (by decide +kernel) (pa_cons (pe_fld (pv 7) rfl) pa_nil)) pe_int (nomark _))))))
 (pss_one (ps_ret pe_bl))
 pss_nil))))))))
 (pss_one (ps_ret pe_bl))))))))), run_body (ρ := [some penF, some (plP T p), none, none, none, none, none, none, none, none]) hs hR hK hX rfl ?_⟩
  have bst : Bd 350 (stF p) := st_bd (k := 345) (sz.x.mono (by decide)) (sz.y.mono (by decide)) sz.a
  have w3 : Bd 2990 p.1 ∧ Bd 2990 p.2.1 ∧ Bd 2990 p.2.2 := ⟨sz.x.mono (by decide), sz.y.mono (by decide), sz.a.mono (by decide)⟩
  have w0 : Bd 3000 p.1 ∧ Bd 3000 p.2.1 ∧ Bd 3000 p.2.2 := ⟨sz.x.mono (by decide), sz.y.mono (by decide), sz.a.mono (by decide)⟩
  have wb : Bd3 p := ⟨sz.x.mono (by decide), sz.y.mono (by decide), sz.a.mono (by decide)⟩
  have hb3 : Bd3 (0, 0, 0) := ⟨bd00, bd00, bd00⟩
  have s0 := st_nn p
  obtain ⟨l1, l2, l3, l4, l5, l6, l7, l8, l9, l10⟩ := least_ok p
  obtain ⟨g1, g2, g3, g4⟩ := lwF_ok p
  have g6 : (joinF (frameF p (bxW p (stF p)) (bxH p (stF p)))).length ≤ 6 := lwF_six p
  have rnw : RnOk (lwF p) := lw_rn _ (bst.mono (by decide))
  refine ws_seq <| ws_par <| wa_cons <| we_call <| wa_cons <| we_var rfl <| wa_nil ⟨_, rfl, .inl ⟨p, rfl, w0.1, w0.2.1, w0.2.2, wa_cons <| we_call <| wa_cons <| we_var rfl <| wa_nil ⟨p, rfl, w0, l1, l2, (bst.le' l3 l4).mono (by decide), (bst.le' l5 l6).mono (by decide), ⟨by omega, l7⟩, wa_nil ⟨_, _, rfl, ?_⟩⟩⟩⟩
  refine ws_cut (fun ρ' B' => ρ' = [some penF, some (plP T p), some (.int (stF p)), some (wkD T (lwF p)), none, none, none, none, none, none] ∧ B = B') ?_ ?_
  · refine ws_if <| wt_or <| wt_test <| we_op <| we_meth0 <| we_var rfl ⟨_, _, rfl, by decide +kernel, ⟨lwF p, rfl, rnw, ?_⟩⟩
    rw [g3]
    refine we_var rfl <| ro_ownEq T ⟨_, _, _, _, rfl, .inl ⟨_, _, _, rfl, ⟨_, rfl, ⟨_, rfl, fun h => ntA ⟨rfl, rfl, rfl⟩ h, fun _ => ?_⟩⟩⟩⟩
    refine wt_or <| wt_test <| we_op <| we_prop <| we_var rfl ⟨_, _, rfl, lwF p, rfl, by omega, we_var rfl <| ro_neI ⟨_, rfl, fun h => neA g2 h, fun _ => ?_⟩⟩
    refine wt_or <| wt_test <| we_op <| we_lenT <| wa_cons <| we_fld <| we_var rfl ⟨_, _, _, _, rfl, T.cl_Walk, T.na_Walk_runs, rfl, wa_nil ⟨_, rfl, we_int <| ro_b0 ⟨_, rfl, fun h => ?_, fun _ => ?_⟩⟩⟩
    · have h := of_decide_eq_true h
      rw [List.length_map] at h
      omega
    refine wt_not <| wt_val <| we_meth0 <| we_var rfl ⟨_, _, rfl, by decide +kernel, ⟨lwF p, rfl, rnw, by rw [g3]; exact w0, ?_⟩⟩
    rw [decide_eq_true (show stF (posF (lwF p)) = sumR (lwF p) by rw [g3, g2])]
    exact ⟨_, rfl, (fun h => nomatch h), fun _ => ws_next ⟨rfl, rfl⟩⟩
  rintro _ _ ⟨rfl, rfl⟩
  refine ws_cut (fun ρ' B' => ρ' = [some penF, some (plP T p), some (.int (stF p)), some (wkD T (lwF p)), none, none, none, none, none, none] ∧ B = B') ?_ ?_
  · have ps1 : PrS 1 1 1 1 := ⟨by decide, by decide, by decide, by decide⟩
    refine ws_if <| wt_or <| wt_test <| we_op <| we_meth <| we_make <| wa_cons <| we_int <| wa_cons <| we_int <| wa_cons <| we_int <| wa_cons <| we_int <| wa_nil ⟨1, 1, 1, 1, rfl, ps1, ⟨_, _, rfl, by decide +kernel, wa_cons <| we_var rfl <| wa_nil ⟨1, 1, 1, 1, p, rfl, ps1, sz, fun v hv => ?_⟩⟩⟩
    have ev : v = stF p := by have := isl_all (t := 1) (by decide) hv; omega
    refine we_var rfl <| ro_neI ⟨_, rfl, fun h => neA ev h, fun _ => ?_⟩
    refine wt_test <| we_op <| we_call <| wa_cons <| we_call <| wa_nil ⟨rfl, wa_cons <| we_var rfl <| wa_nil ⟨_, _, rfl, .inl ⟨(0, 0, 0), p, rfl, rfl, hb3, wb, we_var rfl <| ro_neI ⟨_, rfl, fun h => neA (show stF (apF (0, 0, 0) p) = stF p by rw [apF_home]) h, fun _ => ws_next ⟨rfl, rfl⟩⟩⟩⟩⟩
  rintro _ _ ⟨rfl, rfl⟩
  refine ws_seq <| ws_asg <| we_call <| wa_cons <| we_var rfl <| wa_cons <| we_op <| we_var rfl <| we_int <| ro_i0 <| wa_nil ⟨stF p + 1, rfl, by omega, (bst.add2 (show Bd 350 1 from bdone (by decide))).mono (by decide), by omega, fun m B1 m0 m1 hB1 => wg_name ?_⟩
  have m1 : m ≤ stF p := by omega
  have wk := spot_wk p m0 m1 (bst.mono (by decide))
  obtain ⟨sp1, sp2⟩ := spot_ok p m0 m1
  have pb := pos_bd wk
  obtain ⟨qs, eqs⟩ : ∃ qs, qs = joinF (hF (lwF p) m) := ⟨_, rfl⟩
  refine ws_seq <| ws_asg <| we_meth <| we_var rfl ⟨_, _, rfl, by decide +kernel, wa_cons <| we_var rfl <| wa_nil ⟨lwF p, _, rfl, by omega, .inl ⟨m, rfl, m0, (by show m ≤ sumR (lwF p); rw [g2]; exact m1), wk.rn, wg_name ?_⟩⟩⟩
  rw [← eqs] at sp1 sp2 pb ⊢
  obtain ⟨q, eq⟩ : ∃ q, q = posF qs := ⟨_, rfl⟩
  rw [← eq] at sp1 sp2 pb ⊢
  refine ws_cut (fun ρ' B' => ρ' = [some penF, some (plP T p), some (.int (stF p)), some (wkD T (lwF p)), some (.int m), some (plP T q), none, none, none, none] ∧ B1 = B') ?_ ?_
  · refine ws_if <| wt_or <| wt_test <| we_op <| we_call <| wa_cons <| we_var rfl <| wa_nil ⟨_, rfl, .inl ⟨q, rfl, pb.1.mono (by decide), pb.2.1.mono (by decide), pb.2.2.mono (by decide), we_var rfl <| ro_neI ⟨_, rfl, fun h => neA sp1 h, fun _ => ?_⟩⟩⟩
    refine wt_or <| wt_not <| wt_val <| we_call <| wa_cons <| we_var rfl <| wa_cons <| we_call <| wa_nil ⟨rfl, wa_cons <| we_var rfl <| wa_nil ⟨_, _, _, rfl, .inl ⟨q, (0, 0, 0), p, rfl, rfl, rfl, pb, hb3, wb, ?_⟩⟩⟩
    rw [decide_eq_true (show stF (apF (0, 0, 0) q) + stF (apF q p) = stF (apF (0, 0, 0) p) by rw [apF_home, apF_home, sp1, sp2]; omega)]
    refine ⟨_, rfl, (fun h => nomatch h), fun _ => ?_⟩
    refine wt_test <| we_op <| we_call <| wa_cons <| we_var rfl <| wa_cons <| we_var rfl <| wa_nil ⟨_, _, rfl, .inl ⟨q, p, rfl, rfl, pb, wb, we_op <| we_var rfl <| we_var rfl <| ro_i0 <| ro_neI ⟨_, rfl, fun h => neA sp2 h, fun _ => ws_next ⟨rfl, rfl⟩⟩⟩⟩
  rintro _ _ ⟨rfl, rfl⟩
  refine ws_cut (fun ρ' B' => B' ≤ B + 40) ?_ (fun ρ' B' hB' => ws_ret <| we_bl <| hk _ hB')
  refine ws_for_list <| we_lst <| wa_cons <| we_neg <| we_int ⟨_, rfl, wa_cons <| we_neg <| we_int ⟨_, rfl, wa_cons <| we_int <| wa_cons <| we_int <| wa_cons <| we_int <| wa_cons <| we_op <| we_int <| we_call <| wa_cons <| we_var rfl <| wa_cons <| we_int <| wa_nil ⟨40, rfl, by decide, by decide, by omega, fun d d0 d1 => ro_i (show CMul 2 d from .inl ⟨by decide, by decide⟩) <| wa_nil ⟨Nat.le_of_ble_eq_true rfl, ⟨_, rfl, fun i ρ' B' => ∃ o6 o7 o8 o9 : Option D, ρ' = [some penF, some (plP T p), some (.int (stF p)), some (wkD T (lwF p)), some (.int m), some (plP T q), o6, o7, o8, o9] ∧ B' = B1 + 1, ⟨_, _, _, _, rfl, rfl⟩, fun i x ρ' B' hi hI => ?_, fun ρ' B' ⟨_, _, _, _, _, hB'⟩ => by omega⟩⟩⟩⟩⟩
  obtain ⟨o6, o7, o8, o9, rfl, rfl⟩ := hI
  obtain ⟨t, rfl, t0, t1⟩ : ∃ t : Int, x = .int t ∧ -2 ≤ t ∧ t ≤ 100 := by
    have hx := List.mem_of_getElem? hi
    simp only [List.mem_cons, List.not_mem_nil, or_false] at hx
    rcases hx with rfl | rfl | rfl | rfl | rfl | rfl
    · exact ⟨_, rfl, by decide, by decide⟩
    · exact ⟨_, rfl, by decide, by decide⟩
    · exact ⟨_, rfl, by decide, by decide⟩
    · exact ⟨_, rfl, by decide, by decide⟩
    · exact ⟨_, rfl, by decide, by decide⟩
    · exact ⟨_, rfl, by omega, by omega⟩
  refine wg_name ?_
  refine ws_seq <| ws_if <| wt_test <| we_op <| we_op <| we_var rfl <| we_var rfl <| ro_i0 <| we_int <| ro_b0 ⟨_, rfl, fun h => ws_cont ⟨_, _, _, _, rfl, rfl⟩, fun h => ws_next ?_⟩
  have n0 : 0 ≤ stF p + t := by have := of_decide_eq_false h; omega
  obtain ⟨n, en⟩ : ∃ n, n = stF p + t := ⟨_, rfl⟩
  have bn : Bd 400 n := by
    have : (2 : Nat) ^ 400 = 2 ^ 350 * 2 ^ 50 := by rw [← Nat.pow_add]
    have h1 : 0 < 2 ^ 350 := Nat.two_pow_pos 350
    unfold Bd at *
    omega
  rw [← en] at n0
  refine ws_seq <| ws_par <| wa_cons <| we_call <| wa_cons <| we_var rfl <| wa_cons <| we_op <| we_var rfl <| we_var rfl <| ro_i0 ?_
  rw [← en]
  refine wa_nil ⟨_, _, rfl, .inl ⟨p, n, rfl, rfl, n0, w3, bn.mono (by decide), ?_⟩⟩
  refine wa_cons <| we_call <| wa_cons <| we_fx T <| we_var rfl ⟨_, _, _, rfl, wa_cons <| we_fy T <| we_var rfl ⟨_, _, _, rfl, wa_cons <| we_op <| we_var rfl <| we_var rfl <| ro_i0 ?_⟩⟩
  rw [← en]
  refine wa_nil ⟨_, _, _, rfl, .inl ⟨p.1, p.2.1, n, rfl, rfl, rfl, n0, w0.1, w0.2.1, bn.mono (by decide), wa_nil ⟨_, _, rfl, ?_⟩⟩⟩
  refine ws_cut (fun ρ' B' => ρ' = [some penF, some (plP T p), some (.int (stF p)), some (wkD T (lwF p)), some (.int m), some (plP T q), some (.int t), some (woF T p n), some (areaD (areaF p.1 p.2.1 n)), some (.bl (decide (stF p ≤ n ∧ (n - stF p) % 2 = 0)))] ∧ B1 + 1 = B') ?_ ?_
  · cases e : areaF p.1 p.2.1 n with
    | none =>
      have hn := areaF_none e p.2.2
      refine ws_asg <| we_and <| we_notN <| we_var rfl ⟨_, rfl, (fun h => nomatch h), fun _ => wg_name ⟨?_, rfl⟩⟩
      rw [show decide (stF p ≤ n ∧ (n - stF p) % 2 = 0) = false from decide_eq_false hn]
      rfl
    | some lh =>
      obtain ⟨lo, hi'⟩ := lh
      obtain ⟨h1, h2, h3⟩ := areaF_some e
      have h1 : (lo ≤ p.2.2 ∧ p.2.2 ≤ hi') ↔ (stF p ≤ n ∧ (n - stF p) % 2 = 0) := h1 p.2.2
      refine ws_asg <| we_and <| we_notN <| we_var rfl ⟨_, rfl, (fun _ => ?_), fun h => nomatch h⟩
      refine we_chain <| we_op <| we_var rfl <| we_int <| ro_ixT rfl <| we_fa T <| we_var rfl ⟨_, _, _, rfl, ro_b0 ⟨_, rfl, fun c1 => ?_, fun c1 => wg_name ⟨?_, rfl⟩⟩⟩
      · refine we_op <| we_var rfl <| we_int <| ro_ixT rfl <| ro_b0 <| wg_name ⟨?_, rfl⟩
        have c1 := of_decide_eq_true c1
        rw [show decide (p.2.2 ≤ hi') = decide (stF p ≤ n ∧ (n - stF p) % 2 = 0) by
          rw [decide_eq_decide, ← h1]
          exact ⟨fun h => ⟨c1, h⟩, fun h => h.2⟩]
        rfl
      · rw [show decide (stF p ≤ n ∧ (n - stF p) % 2 = 0) = false from decide_eq_false fun h => absurd (h1.mpr h).1 (of_decide_eq_false c1)]
        rfl
  rintro _ _ ⟨rfl, rfl⟩
  obtain ⟨cb, ecb⟩ : ∃ cb, cb = decide (stF p ≤ n ∧ (n - stF p) % 2 = 0) := ⟨_, rfl⟩
  rw [← ecb]
  have hcb : isNon (woF T p n) = !cb := by
    rw [ecb]
    unfold woF
    split
    · rename_i h; rw [decide_eq_true h]; rfl
    · rename_i h; rw [decide_eq_false h]; rfl
  refine ws_cut (fun ρ' B' => ρ' = [some penF, some (plP T p), some (.int (stF p)), some (wkD T (lwF p)), some (.int m), some (plP T q), some (.int t), some (woF T p n), some (areaD (areaF p.1 p.2.1 n)), some (.bl cb)] ∧ B1 + 1 = B') ?_ ?_
  · refine ws_if <| wt_or <| wt_test <| we_op <| we_var rfl <| we_notN <| we_var rfl ?_
    rw [hcb, Bool.not_not]
    refine ro_neB ⟨_, rfl, fun h => neA rfl h, fun _ => ?_⟩
    refine wt_test <| we_op <| we_var rfl <| we_and <| we_op <| we_var rfl <| we_int <| ro_b0 ⟨_, rfl, fun h => ?_, fun h => ?_⟩
    · have h : 0 ≤ t := of_decide_eq_true h
      refine we_op <| we_op <| we_intof <| wa_cons <| we_var rfl <| wa_nil ⟨_, rfl, we_int <| ro_i (by decide +kernel) <| we_int <| ro_eqI <| ro_neB ⟨_, rfl, fun hh => neA ?_ hh, fun _ => ws_next ⟨rfl, rfl⟩⟩⟩
      rw [ecb, decide_eq_decide, Int.fmod_eq_emod_of_nonneg _ (by decide)]
      exact ⟨fun h => by omega, fun h2 => by omega⟩
    · have h : ¬ 0 ≤ t := of_decide_eq_false h
      refine ro_neB ⟨_, rfl, fun hh => neA ?_ hh, fun _ => ws_next ⟨rfl, rfl⟩⟩
      rw [ecb]
      exact decide_eq_false fun h2 => h (by omega)
  rintro _ _ ⟨rfl, rfl⟩
  refine ws_seq <| ws_if <| wt_val <| we_isN <| we_var rfl ?_
  rw [hcb]
  by_cases hc : stF p ≤ n ∧ (n - stF p) % 2 = 0
  · have ec : cb = true := by rw [ecb]; exact decide_eq_true hc
    have ew : woF T p n = wkD T (bwF p n) := if_pos hc
    rw [ec, ew]
    refine ⟨_, rfl, (fun h => nomatch h), fun _ => ws_next ?_⟩
    obtain ⟨b1, b2, b3, b4⟩ := bwF_ok hc.1 hc.2
    have lb : (bwF p n).length ≤ 7 := Nat.le_trans (joinF_le (built_ok hc.1 hc.2).2.2.2.2.2.2.1) (built_ok hc.1 hc.2).2.2.2.2.2.2.2.2.2
    have rnb : RnOk (bwF p n) := RnOk.of b1 (by omega) (by rw [b2]; exact bn.mono (by decide))
    refine ws_if <| wt_or <| wt_test <| we_op <| we_meth0 <| we_var rfl ⟨_, _, rfl, by decide +kernel, ⟨bwF p n, rfl, rnb, ?_⟩⟩
    rw [b3]
    refine we_var rfl <| ro_ownEq T ⟨_, _, _, _, rfl, .inl ⟨_, _, _, rfl, ⟨_, rfl, ⟨_, rfl, fun h => ntA ⟨rfl, rfl, rfl⟩ h, fun _ => ?_⟩⟩⟩⟩
    refine wt_or <| wt_test <| we_op <| we_prop <| we_var rfl ⟨_, _, rfl, bwF p n, rfl, by omega, we_op <| we_var rfl <| we_var rfl <| ro_i0 <| ro_neI ⟨_, rfl, fun h => neA (b2.trans en) h, fun _ => ?_⟩⟩
    refine wt_test <| we_op <| we_lenT <| wa_cons <| we_fld <| we_var rfl ⟨_, _, _, _, rfl, T.cl_Walk, T.na_Walk_runs, rfl, wa_nil ⟨_, rfl, we_int <| ro_b0 ⟨_, rfl, fun h => ?_, fun _ => ws_next ⟨_, _, _, _, rfl, rfl⟩⟩⟩⟩
    have h := of_decide_eq_true h
    rw [List.length_map] at h
    omega
  · have ec : cb = false := by rw [ecb]; exact decide_eq_false hc
    rw [ec]
    exact ⟨_, rfl, (fun _ => ws_cont ⟨_, _, _, _, rfl, rfl⟩), fun h => nomatch h⟩
end
end AW

set_option linter.all false
set_option maxRecDepth 100000
set_option maxHeartbeats 8000000
namespace AW
open PySem PySem.Spec PyProof.Rows L2 LamX Fewest
variable [Tbs]
section
variable {P : Program} {w : World} {K : PySem.W.Frag} {mg : Str → Option Value} {base : Heap} [CDict K w "DIRECTIONS" L_DIRECTIONS]
theorem WkB.head {ps : List Rn} (h : WkB ps) {n : Int} (h0 : 0 ≤ n) (h1 : n ≤ sumR ps) : WkB (joinF (hF ps n)) ∧ sumR (joinF (hF ps n)) = n ∧ posF (joinF (hF ps n)) = posF (hL ps n) := by
  have g := hL_good h.1 h0
  have s := hL_sum h.1 h0 h1
  rw [hF_eq]
  refine ⟨⟨joinF_good g, ?_, ?_⟩, (joinF_sum g).trans s, joinF_pos g⟩
  · have := joinF_le g
    rw [hL_len] at this
    have := h.2.1
    omega
  · rw [joinF_sum g, s]
    have := h.2.2
    unfold Bd at *
    omega
theorem walk_par {ps : List Rn} (g : GoodR ps) : (stF (posF ps) - sumR ps).fmod 2 = 0 := by
  have h1 := Least.par (stF_st (posF ps))
  obtain ⟨h2, h3⟩ := cnt_pos g
  have h4 := sumR_cnt g
  rw [Int.fmod_eq_emod_of_nonneg _ (by decide)]
  omega
def pr_l_walk_right (T : Tx K mg) : Pr := fun ds B k e => ds = [penF] ∧ B ≤ 600000 ∧ ∀ B', B' ≤ B + 250 → k (.bl true) B'
theorem opt_non (o : Option Int) : isNon (optD o) = o.isNone := by cases o <;> rfl
theorem okD_l_walk_right (T : Tx K mg) : FnOk P w K mg base (L2.CX P w) 12 T.a_l_walk_right T.d_l_walk_right P_l_walk_right (spD K (pr_l_walk_right T)) := by
  refine T.F_l_walk_right.okX sc_l_walk_right (spD_len fun ds B k e h => by obtain ⟨rfl, hB, hk⟩ := h; rfl) (fun cdv A outer s H vs Q E hr h => ?_)
  have G_Walk_at : FnOk P w K mg base (L2.CX P w) 9 _ _ _ _ := okD_Walk_at T
  have G_Walk_first_not_least : FnOk P w K mg base (L2.CX P w) 8 _ _ _ _ := okD_Walk_first_not_least T
  have G_Walk_init : FnOk P w K mg base (L2.CX P w) 5 _ _ _ _ := okD_Walk_init T
  have G_Walk_is_least : FnOk P w K mg base (L2.CX P w) 7 _ _ _ _ := okD_Walk_is_least T
  have G_Walk_length : FnOk P w K mg base (L2.CX P w) 1 _ _ _ _ := okD_Walk_length T
  have G_Walk_place : FnOk P w K mg base (L2.CX P w) 6 _ _ _ _ := okD_Walk_place T
  have G_l_big : FnOk P w K mg base (L2.CX P w) 2 _ _ _ _ := okD_l_big T
  have G_l_draw : FnOk P w K mg base (L2.CX P w) 1 _ _ _ _ := okD_l_draw T
  have G_l_pick : FnOk P w K mg base (L2.CX P w) 2 _ _ _ _ := okD_l_pick T
  have G_steps : FnOk P w K mg base (L2.CX P w) 4 _ _ _ _ := okD_steps T
  obtain ⟨G, ds, B, k, e, hs, hR, ⟨rfl, hB, hk⟩, hK, hX⟩ := h
  refine ⟨_, (pss_cons (ps_set (i := 1) sc_l_walk_right.nd rfl (.inl rfl) (pe_lst pa_nil))
 (pss_cons (ps_for (passes_of rfl) rfl (pi_range1 (by rfl) T.n_range (pa_cons (pe_call G_l_draw (hr.mono (by decide)) (by rfl) T.g_l_draw T.F_l_draw.kp T.b_l_draw .nil passL (pa_cons (pv 0) (pa_cons pe_int pa_nil))) pa_nil)) (pg_name (i := 2) sc_l_walk_right.nd rfl (.inl rfl))
 (pss_one (ps_expr (pe_bm PySem.F.plainAttrs_list PySem.F.slot_list_append PySem.F.type_list_append mt_append (pv 1) (pa_cons (pe_tup (pa_cons (pe_call G_l_pick (hr.mono (by decide)) (by rfl) T.g_l_pick T.F_l_pick.kp T.b_l_pick .nil passL (pa_cons (pv 0) (pa_cons pe_str pa_nil))) (pa_cons (pe_call G_l_big (hr.mono (by decide)) (by rfl) T.g_l_big T.F_l_big.kp T.b_l_big .nil passL (pa_cons (pv 0) (pa_cons (pe_call G_l_pick (hr.mono (by decide)) (by rfl) T.g_l_pick T.F_l_pick.kp T.b_l_pick .nil passL (pa_cons (pv 0) (pa_cons (pe_lst (pa_cons pe_int (pa_cons (pe_op op_pow pe_int pe_int) pa_nil))) pa_nil))) pa_nil))) pa_nil))) pa_nil)))))
 (pss_cons (ps_set (i := 3) sc_l_walk_right.nd rfl (.inl rfl) (pe_make T.M_Walk G_Walk_init (hr.mono (by decide)) (by rfl) T.g_C_Walk T.b_Walk_init .nil passL (pa_cons (pv 1) pa_nil)))
 (pss_cons (ps_set (i := 4) sc_l_walk_right.nd rfl (.inl rfl) (pe_cmpR op_eq (pe_call G_steps (hr.mono (by decide)) (by rfl) T.g_steps T.F_steps.kp T.b_steps .nil passL (pa_cons (pe_meth0 (pv 3) T.cl_Walk T.M_Walk_place G_Walk_place (hr.mono (by decide)) T.b_Walk_place .nil passL) pa_nil)) (pe_prop (pv 3) T.cl_Walk T.Q_Walk_length G_Walk_length (hr.mono (by decide)) T.b_Walk_length .nil passL rfl) (nomark _)))
 (pss_cons (ps_set (i := 5) sc_l_walk_right.nd rfl (.inl rfl) (pe_meth0 (pv 3) T.cl_Walk T.M_Walk_first_not_least G_Walk_first_not_least (hr.mono (by decide)) T.b_Walk_first_not_least .nil passL))
 (pss_cons (ps_if (PW.pt (pw_or (pt_cmpR op_ne (pe_meth0 (pv 3) T.cl_Walk T.M_Walk_is_least G_Walk_is_least (hr.mono (by decide)) T.b_Walk_is_least .nil passL) (pv 4) (nomark _)) (pw_or (pt_cmpR op_ne (pe_cmp (pc_isN (pv 5)) rfl) (pv 4) (nomark _)) (pw_or1 (pt_cmpR op_ne (pe_op op_modN (pe_op op_sub (pe_call G_steps (hr.mono (by decide)) (by rfl) T.g_steps T.F_steps.kp T.b_steps .nil passL (pa_cons (pe_meth0 (pv 3) T.cl_Walk T.M_Walk_place G_Walk_place (hr.mono (by decide)) T.b_Walk_place .nil passL) pa_nil)) (pe_prop (pv 3) T.cl_Walk T.Q_Walk_length G_Walk_length (hr.mono (by decide)) T.b_Walk_length .nil passL rfl)) pe_int) pe_int (nomark _))))))
 (pss_one (ps_ret pe_bl))
 pss_nil)
 (pss_cons (ps_if (pt_cmp (pc_isN (pv 5)))
 (pss_one (ps_ret pe_bl))
 pss_nil)
 (pss_one (ps_ret (pe_and (pe_cmpR op_ne (pe_call G_steps (hr.mono (by decide)) (by rfl) T.g_steps T.F_steps.kp T.b_steps .nil passL (pa_cons (pe_meth (pv 3) T.cl_Walk T.M_Walk_at G_Walk_at (hr.mono (by decide)) T.b_Walk_at .nil passL (pa_cons (pv 5) pa_nil)) pa_nil)) (pv 5) (nomark _)) (pe_one (pe_cmpR op_eq (pe_call G_steps (hr.mono (by decide)) (by rfl) T.g_steps T.F_steps.kp T.b_steps .nil passL (pa_cons (pe_meth (pv 3) T.cl_Walk T.M_Walk_at G_Walk_at (hr.mono (by decide)) T.b_Walk_at .nil passL (pa_cons (pe_op op_sub (pv 5) pe_int) pa_nil)) pa_nil)) (pe_op op_sub (pv 5) pe_int) (nomark _))))))))))))), run_body (ρ := [some penF, none, none, none, none, none]) hs hR hK hX rfl ?_⟩
  have z2 : 2 ≤ sizeLine := by decide
  have zL : 16000000 < sizeLine := by decide
  have e12 : (10 : Int) ^ 12 = 1000000000000 := by decide
  refine wx_own <| wx_seq <| wx_newlist fun a => ?_
  refine wx_seq <| wx_for_range1 <| wa_cons <| we_call <| wa_cons <| we_var rfl <| wa_cons <| we_int <| wa_nil ⟨7, rfl, by decide, by decide, by omega, fun d d0 d1 => wa_nil ⟨_, rfl, by omega, by omega, fun i ρ' O' B' => (∃ (o2 : Option D) (ps : List Rn), ρ' = [some penF, some (.val (.ref a)), o2, none, none, none] ∧ O' = [(a, .list (ps.map prD))] ∧ GoodR ps ∧ ps.length = i ∧ sumR ps ≤ 1000000000000 * (i : Int)) ∧ B' ≤ B + 1 + 26 * i, ⟨⟨_, [], rfl, rfl, (fun p hp => by cases hp), rfl, by decide⟩, by omega⟩, fun i ρ' O' B' hi hI => ?_, fun ρ' O' B' hI => ?_⟩⟩
  · obtain ⟨⟨o2, ps, rfl, rfl, hg, hl, hs⟩, hB'⟩ := hI
    have hi2 : (i : Int) < 7 := by omega
    refine wg_name ?_
    refine wx_app (n := 0) rfl rfl <| we_tup <| wa_cons <| we_call <| wa_cons <| we_var rfl <| wa_cons <| we_str <| wa_nil ⟨_, rfl, .inr ⟨_, rfl, by decide +kernel, by decide +kernel, by omega, fun c hc => ?_⟩⟩
    refine wa_cons <| we_call <| wa_cons <| we_var rfl <| wa_cons <| we_call <| wa_cons <| we_var rfl <| wa_cons <| we_lst <| wa_cons <| we_int <| wa_cons <| we_op <| we_int <| we_int <| ro_ten 12 (by decide) <| wa_nil ⟨Nat.le_of_ble_eq_true rfl, wa_nil ⟨_, rfl, .inl ⟨_, rfl, by show 0 < 2; decide, by show 2 ≤ 1000000; decide, by omega, fun f hf => ?_⟩⟩⟩
    obtain ⟨y, rfl, y0, y1⟩ : ∃ y : Int, f = .int y ∧ 0 < y ∧ y ≤ 1000000000000 := by
      simp only [List.mem_cons, List.not_mem_nil, or_false] at hf
      rcases hf with rfl | rfl
      · exact ⟨4, rfl, by decide, by decide⟩
      · exact ⟨_, rfl, by rw [e12]; decide, by rw [e12]; decide⟩
    refine wa_nil ⟨y, rfl, y0, (show Bd 50 y by unfold Bd; omega).mono (by decide), by omega, fun t B2 t0 t1 hB2 => wa_nil ⟨z2, by rw [List.length_map]; omega, ⟨⟨_, ps ++ [(c, t)], rfl, by rw [List.map_append]; rfl, hg.append ?_, by rw [List.length_append, hl]; rfl, ?_⟩, by push_cast; omega⟩⟩⟩
    · intro q hq
      rw [List.mem_singleton] at hq
      subst hq
      exact ⟨hc, t0⟩
    · have e : sumR [(c, t)] = t := by show t + 0 = _; omega
      rw [sumR_append, e]
      push_cast
      omega
  obtain ⟨⟨o2, ps, rfl, rfl, hg, hl, hs⟩, hB'⟩ := hI
  have hd : (d.toNat : Int) = d := by omega
  have hB' : B' ≤ B + 200 := by omega
  have n0 := sumR_nn hg
  have jl := joinF_le hg
  have wk : WkB (joinF ps) := ⟨joinF_good hg, by omega, by rw [joinF_sum hg]; exact (show Bd 50 (sumR ps) by unfold Bd; omega).mono (by decide)⟩
  have td : TdOk ps := ⟨by omega, hg⟩
  refine wx_tell (i := 1) rfl <| wx_ws ?_
  obtain ⟨qs, eqs⟩ : ∃ qs, qs = joinF ps := ⟨_, rfl⟩
  refine ws_seq <| ws_asg <| we_make <| wa_cons <| we_var rfl <| wa_nil ⟨_, rfl, .inl ⟨false, false, ps, rfl, td, wg_name ?_⟩⟩
  rw [← eqs] at wk ⊢
  have g := wk.1
  have ql : qs.length ≤ 100 := wk.2.1
  have b := pos_bd wk
  have pb : Bd 3000 (posF qs).1 ∧ Bd 3000 (posF qs).2.1 ∧ Bd 3000 (posF qs).2.2 := ⟨b.1.mono (by decide), b.2.1.mono (by decide), b.2.2.mono (by decide)⟩
  refine ws_seq <| ws_asg <| we_op <| we_call <| wa_cons <| we_meth0 <| we_var rfl ⟨_, _, rfl, by decide +kernel, qs, rfl, wk.rn, wa_nil ⟨_, rfl, .inl ⟨posF qs, rfl, pb.1, pb.2.1, pb.2.2, we_prop <| we_var rfl ⟨_, _, rfl, qs, rfl, by omega, ro_eqI <| wg_name ?_⟩⟩⟩⟩
  refine ws_seq <| ws_asg <| we_meth0 <| we_var rfl ⟨_, _, rfl, by decide +kernel, qs, rfl, wk, fun o ho => wg_name ?_⟩
  have hno := ho.none_iff g
  refine ws_cut (fun ρ' B1 => ρ' = [some penF, some (.lst (ps.map prD)), o2, some (wkD T qs), some (.bl (decide (stF (posF qs) = sumR qs))), some (optD o)] ∧ B' = B1) ?_ ?_
  · refine ws_if <| wt_or <| wt_test <| we_op <| we_meth0 <| we_var rfl ⟨_, _, rfl, by decide +kernel, qs, rfl, wk.rn, pb, we_var rfl <| ro_neB ⟨_, rfl, fun h => neA rfl h, fun _ => ?_⟩⟩
    refine wt_or <| wt_test <| we_op <| we_isN <| we_var rfl <| we_var rfl <| ro_neB ⟨_, rfl, fun h => ?_, fun _ => ?_⟩
    · refine neA ?_ h
      rw [opt_non, Bool.eq_iff_iff, decide_eq_true_iff]
      refine Iff.trans ?_ hno
      cases o <;> simp
    refine wt_test <| we_op <| we_op <| we_op <| we_call <| wa_cons <| we_meth0 <| we_var rfl ⟨_, _, rfl, by decide +kernel, qs, rfl, wk.rn, wa_nil ⟨_, rfl, .inl ⟨posF qs, rfl, pb.1, pb.2.1, pb.2.2, we_prop <| we_var rfl ⟨_, _, rfl, qs, rfl, by omega, ro_i0 <| we_int <| ro_i (by decide +kernel) <| we_int <| ro_neI ⟨_, rfl, fun h => neA (walk_par g) h, fun _ => ws_next ⟨rfl, rfl⟩⟩⟩⟩⟩⟩
  rintro _ _ ⟨rfl, rfl⟩
  refine ws_seq <| ws_if <| wt_val <| we_isN <| we_var rfl ⟨_, rfl, fun _ => ws_ret <| we_bl <| hk _ (by omega), fun h => ws_next ?_⟩
  match o, h, ho with
  | some n, _, ho =>
    obtain ⟨n0, n1, n2, n3⟩ := ho
    obtain ⟨w1, w2, w3⟩ := wk.head (n := n) (by omega) n1
    obtain ⟨v1, v2, v3⟩ := wk.head (n := n - 1) (by omega) (by omega)
    have c1 := pos_bd w1
    have c2 := pos_bd v1
    refine ws_ret <| we_and <| we_op <| we_call <| wa_cons <| we_meth <| we_var rfl ⟨_, _, rfl, by decide +kernel, wa_cons <| we_var rfl <| wa_nil ⟨qs, _, rfl, by omega, .inl ⟨n, rfl, by omega, n1, w1.rn, wa_nil ⟨_, rfl, .inl ⟨posF (joinF (hF qs n)), rfl, c1.1.mono (by decide), c1.2.1.mono (by decide), c1.2.2.mono (by decide), we_var rfl <| ro_neI ⟨_, rfl, fun _ => ?_, fun h => ?_⟩⟩⟩⟩⟩⟩
    · refine we_op <| we_call <| wa_cons <| we_meth <| we_var rfl ⟨_, _, rfl, by decide +kernel, wa_cons <| we_op <| we_var rfl <| we_int <| ro_i0 <| wa_nil ⟨qs, _, rfl, by omega, .inl ⟨n - 1, rfl, by omega, (show n - 1 ≤ sumR qs by omega), v1.rn, wa_nil ⟨_, rfl, .inl ⟨posF (joinF (hF qs (n - 1))), rfl, c2.1.mono (by decide), c2.2.1.mono (by decide), c2.2.2.mono (by decide), we_op <| we_var rfl <| we_int <| ro_i0 <| ro_eqI ?_⟩⟩⟩⟩⟩
      rw [v3, decide_eq_true (show stF (posF (hL qs (n - 1))) = n - 1 from n2)]
      exact hk _ (by omega)
    · exfalso
      rw [w3] at h
      exact n3 (by simpa using h)
end
end AW

set_option linter.all false
set_option maxRecDepth 100000
set_option maxHeartbeats 8000000
namespace AW
open PySem PySem.Spec PyProof.Rows L2 LamX Fewest
variable [Tbs]
section
variable {P : Program} {w : World} {K : PySem.W.Frag} {mg : Str → Option Value} {base : Heap} [CDict K w "DIRECTIONS" L_DIRECTIONS]
theorem law_par (p : T3) : (stF p - p.1 - p.2.1).fmod 2 = 0 := by
  have h1 := Least.par (stF_st p)
  rw [Int.fmod_eq_emod_of_nonneg _ (by decide)]
  omega
theorem SzP'.b3 {p : T3} (s : SzP' p) : Bd3 p := ⟨s.x.mono (by decide), s.y.mono (by decide), s.a.mono (by decide)⟩
def pr_law (T : Tx K mg) : Pr := fun ds B k e => ∃ ns : List Int, ds = [.scr ns] ∧ ns.length ≤ 63 ∧ B = 0 ∧ ∀ B', k (.bl true) B'
theorem okD_law (T : Tx K mg) : FnOk P w K mg base (L2.CX P w) 13 T.a_law T.d_law P_law (spD K (pr_law T)) := by
  refine T.F_law.okX sc_law (spD_len fun ds B k e h => by obtain ⟨ns, rfl, hl, rfl, hk⟩ := h; rfl) (fun cdv A outer s H vs Q E hr h => ?_)
  have G_Place_invert : FnOk P w K mg base (L2.CX P w) 6 _ _ _ _ := okD_Place_invert T
  have G_Place_mul : FnOk P w K mg base (L2.CX P w) 6 _ _ _ _ := okD_Place_mul T
  have G_distance : FnOk P w K mg base (L2.CX P w) 8 _ _ _ _ := okD_distance T
  have G_l_drawn : FnOk P w K mg base (L2.CX P w) 7 _ _ _ _ := okD_l_drawn T
  have G_l_local_right : FnOk P w K mg base (L2.CX P w) 10 _ _ _ _ := okD_l_local_right T
  have G_l_pen : FnOk P w K mg base (L2.CX P w) 1 _ _ _ _ := okD_l_pen T
  have G_l_walk_right : FnOk P w K mg base (L2.CX P w) 12 _ _ _ _ := okD_l_walk_right T
  have G_l_walks_right : FnOk P w K mg base (L2.CX P w) 12 _ _ _ _ := okD_l_walks_right T
  have G_lies_between : FnOk P w K mg base (L2.CX P w) 9 _ _ _ _ := okD_lies_between T
  have G_steps : FnOk P w K mg base (L2.CX P w) 4 _ _ _ _ := okD_steps T
  obtain ⟨G, ds, B, k, e, hs, hR, ⟨ns, rfl, hl, rfl, hk⟩, hK, hX⟩ := h
  refine ⟨_, (pss_cons (ps_set (i := 1) sc_law.nd rfl (.inl rfl) (pe_call G_l_pen (hr.mono (by decide)) (by rfl) T.g_l_pen T.F_l_pen.kp T.b_l_pen .nil passL (pa_cons (pv 0) pa_nil)))
 (pss_cons (ps_for (passes_of rfl) rfl (pi_range1 (by rfl) T.n_range (pa_cons (pe_op op_add pe_int (pe_callB (call_min2 rfl) (by rfl) T.n_min (by decide +kernel) (pa_cons pe_int (pa_cons (pe_callB call_len_seq (by rfl) T.n_len (by decide +kernel) (pa_cons (pv 0) pa_nil)) pa_nil)))) pa_nil)) (pg_name (i := 2) sc_law.nd rfl (.inl rfl))
 (pss_cons (ps_par (i := 3) (j := 4) (by rfl) sc_law.nd rfl rfl (by decide) rfl rfl (pa_cons (pe_call G_l_drawn (hr.mono (by decide)) (by rfl) T.g_l_drawn T.F_l_drawn.kp T.b_l_drawn .nil passL (pa_cons (pv 1) pa_nil)) (pa_cons (pe_call G_l_drawn (hr.mono (by decide)) (by rfl) T.g_l_drawn T.F_l_drawn.kp T.b_l_drawn .nil passL (pa_cons (pv 1) pa_nil)) pa_nil)) (by rfl))
 (pss_cons (ps_set (i := 5) sc_law.nd rfl (.inl rfl) (pe_call G_l_drawn (hr.mono (by decide)) (by rfl) T.g_l_drawn T.F_l_drawn.kp T.b_l_drawn .nil passL (pa_cons (pv 1) pa_nil)))
 (pss_cons (ps_if (PW.pt (pw_or (pt_not (pt_val (pe_call G_l_local_right (hr.mono (by decide)) (by rfl) T.g_l_local_right T.F_l_local_right.kp T.b_l_local_right .nil passL (pa_cons (pv 3) pa_nil)))) (pw_or (pt_not (pt_val (pe_call G_l_walks_right (hr.mono (by decide)) (by rfl) T.g_l_walks_right T.F_l_walks_right.kp T.b_l_walks_right .nil passL (pa_cons (pv 1) (pa_cons (pv 4) pa_nil))))) (pw_or1 (pt_not (pt_val (pe_call G_l_walk_right (hr.mono (by decide)) (by rfl) T.g_l_walk_right T.F_l_walk_right.kp T.b_l_walk_right .nil passL (pa_cons (pv 1) pa_nil))))))))
 (pss_one (ps_ret pe_bl))
 pss_nil)
 (pss_cons (ps_par (i := 6) (j := 7) (by rfl) sc_law.nd rfl rfl (by decide) rfl rfl (pa_cons (pe_call G_distance (hr.mono (by decide)) (by rfl) T.g_distance T.F_distance.kp T.b_distance .nil passL (pa_cons (pv 3) (pa_cons (pv 4) pa_nil))) (pa_cons (pe_call G_distance (hr.mono (by decide)) (by rfl) T.g_distance T.F_distance.kp T.b_distance .nil passL (pa_cons (pv 4) (pa_cons (pv 5) pa_nil))) pa_nil)) (by rfl))
 (pss_cons (ps_if (PW.pt (pw_or (pt_cmpR op_gt (pe_call G_distance (hr.mono (by decide)) (by rfl) T.g_distance T.F_distance.kp T.b_distance .nil passL (pa_cons (pv 3) (pa_cons (pv 5) pa_nil))) (pe_op op_add (pv 6) (pv 7)) (nomark _)) (pw_or (pt_cmpR op_ne (pe_call G_distance (hr.mono (by decide)) (by rfl) T.g_distance T.F_distance.kp T.b_distance .nil passL (pa_cons (pv 4) (pa_cons (pv 3) pa_nil))) (pv 6) (nomark _)) (pw_or1 (pt_cmpR op_ne (pe_call G_steps (hr.mono (by decide)) (by rfl) T.g_steps T.F_steps.kp T.b_steps .nil passL (pa_cons (pe_un (un_invO T.m_Place_invert T.i_Place_invert G_Place_invert (hr.mono (by decide)) T.b_Place_invert passL) (pv 3)) pa_nil)) (pe_call G_steps (hr.mono (by decide)) (by rfl) T.g_steps T.F_steps.kp T.b_steps .nil passL (pa_cons (pv 3) pa_nil)) (nomark _))))))
 (pss_one (ps_ret pe_bl))
 pss_nil)
 (pss_cons (ps_if (pt_cmpR op_ne (pe_call G_lies_between (hr.mono (by decide)) (by rfl) T.g_lies_between T.F_lies_between.kp T.b_lies_between .nil passL (pa_cons (pv 4) (pa_cons (pv 3) (pa_cons (pv 5) pa_nil)))) (pe_cmpR op_eq (pe_call G_distance (hr.mono (by decide)) (by rfl) T.g_distance T.F_distance.kp T.b_distance .nil passL (pa_cons (pv 3) (pa_cons (pv 5) pa_nil))) (pe_op op_add (pv 6) (pv 7)) (nomark _)) (nomark _))
 (pss_one (ps_ret pe_bl))
 pss_nil)
 (pss_one (ps_if (PW.pt (pw_or (pt_cmpR op_gt (pe_call G_steps (hr.mono (by decide)) (by rfl) T.g_steps T.F_steps.kp T.b_steps .nil passL (pa_cons (pe_op (op_ownO T.O_Place_Mult G_Place_mul (hr.mono (by decide)) T.b_Place_mul passL) (pv 3) (pv 4)) pa_nil)) (pe_op op_add (pe_call G_steps (hr.mono (by decide)) (by rfl) T.g_steps T.F_steps.kp T.b_steps .nil passL (pa_cons (pv 3) pa_nil)) (pe_call G_steps (hr.mono (by decide)) (by rfl) T.g_steps T.F_steps.kp T.b_steps .nil passL (pa_cons (pv 4) pa_nil))) (nomark _)) (pw_or1 (pt_cmpR op_ne (pe_op op_modN (pe_op op_sub (pe_op op_sub (pe_call G_steps (hr.mono (by decide)) (by rfl) T.g_steps T.F_steps.kp T.b_steps .nil passL (pa_cons (pv 3) pa_nil)) (pe_fld (pv 3) rfl)) (pe_fld (pv 3) rfl)) pe_int) pe_int (nomark _)))))
 (pss_one (ps_ret pe_bl))
 pss_nil)))))))))
 (pss_one (ps_ret pe_bl)))), run_body (ρ := [some (.scr ns), none, none, none, none, none, none, none]) hs hR hK hX rfl ?_⟩
  refine ws_seq <| ws_set <| we_call <| wa_cons <| we_var rfl <| wa_nil ⟨ns, rfl, hl, Int.le_refl _, ?_⟩
  refine ws_cut (fun ρ' B' => ∃ o2 o3 o4 o5 o6 o7 : Option D, ρ' = [some (.scr ns), some penF, o2, o3, o4, o5, o6, o7]) ?_ ?_
  · refine ws_for_range1 <| wa_cons <| we_op <| we_int <| we_min2 <| wa_cons <| we_int <| wa_cons <| we_lenS <| wa_cons <| we_var rfl <| wa_nil ⟨_, rfl, wa_nil ⟨_, _, rfl, ro_i0 <| wa_nil ⟨_, rfl, by split <;> omega, by split <;> omega, fun i ρ' B' => (∃ o2 o3 o4 o5 o6 o7 : Option D, ρ' = [some (.scr ns), some penF, o2, o3, o4, o5, o6, o7]) ∧ B' ≤ 600 * i, ⟨⟨_, _, _, _, _, _, rfl⟩, by omega⟩, fun i ρ' B' hi hI => ?_, fun ρ' B' hI => hI.1⟩⟩⟩
    obtain ⟨⟨o2, o3, o4, o5, o6, o7, rfl⟩, hB'⟩ := hI
    have hi9 : i ≤ 9 := by
      have : i < (2 + if (ns.length : Int) < 5 then (ns.length : Int) else 5).toNat := hi
      split at this <;> omega
    refine wg_name ?_
    obtain ⟨o2, eo2⟩ : ∃ o : Option D, o = some (.int (0 + i)) := ⟨_, rfl⟩
    rw [← eo2]
    clear eo2
    refine ws_seq <| ws_par <| wa_cons <| we_call <| wa_cons <| we_var rfl <| wa_nil ⟨rfl, by omega, fun p B1 sp hB1 => wa_cons <| we_call <| wa_cons <| we_var rfl <| wa_nil ⟨rfl, by omega, fun q B2 sq hB2 => wa_nil ⟨_, _, rfl, ?_⟩⟩⟩
    refine ws_seq <| ws_asg <| we_call <| wa_cons <| we_var rfl <| wa_nil ⟨rfl, by omega, fun r B3 sr hB3 => wg_name ?_⟩
    refine ws_cut (fun ρ' B4 => ρ' = [some (.scr ns), some penF, o2, some (plP T p), some (plP T q), some (plP T r), o6, o7] ∧ B4 ≤ 600 * i + 530) ?_ ?_
    · refine ws_if <| wt_or <| wt_not <| wt_val <| we_call <| wa_cons <| we_var rfl <| wa_nil ⟨p, rfl, sp, ⟨_, rfl, (fun h => nomatch h), fun _ => ?_⟩⟩
      refine wt_or <| wt_not <| wt_val <| we_call <| wa_cons <| we_var rfl <| wa_cons <| we_var rfl <| wa_nil ⟨q, rfl, sq, by omega, fun B4 hB4 => ⟨_, rfl, (fun h => nomatch h), fun _ => ?_⟩⟩
      exact wt_not <| wt_val <| we_call <| wa_cons <| we_var rfl <| wa_nil ⟨rfl, by omega, fun B5 hB5 => ⟨_, rfl, (fun h => nomatch h), fun _ => ws_next ⟨rfl, by omega⟩⟩⟩
    rintro _ B4 ⟨rfl, hB4⟩
    have hch : mu (apF p q) (apF q r) = apF p r := apF_chain p q r
    have htri := st_mu (apF p q) (apF q r)
    rw [hch] at htri
    have hsym := st_sym q p
    refine ws_seq <| ws_par <| wa_cons <| we_call <| wa_cons <| we_var rfl <| wa_cons <| we_var rfl <| wa_nil ⟨_, _, rfl, .inl ⟨p, q, rfl, rfl, sp.b3, sq.b3, wa_cons <| we_call <| wa_cons <| we_var rfl <| wa_cons <| we_var rfl <| wa_nil ⟨_, _, rfl, .inl ⟨q, r, rfl, rfl, sq.b3, sr.b3, wa_nil ⟨_, _, rfl, ?_⟩⟩⟩⟩⟩
    have w0 : Bd 3000 p.1 ∧ Bd 3000 p.2.1 ∧ Bd 3000 p.2.2 := ⟨sp.x.mono (by decide), sp.y.mono (by decide), sp.a.mono (by decide)⟩
    have v0 : Bd 3000 q.1 ∧ Bd 3000 q.2.1 ∧ Bd 3000 q.2.2 := ⟨sq.x.mono (by decide), sq.y.mono (by decide), sq.a.mono (by decide)⟩
    refine ws_cut (fun ρ' B5 => ρ' = [some (.scr ns), some penF, o2, some (plP T p), some (plP T q), some (plP T r), some (.int (stF (apF p q))), some (.int (stF (apF q r)))] ∧ B4 = B5) ?_ ?_
    · refine ws_if <| wt_or <| wt_test <| we_op <| we_call <| wa_cons <| we_var rfl <| wa_cons <| we_var rfl <| wa_nil ⟨_, _, rfl, .inl ⟨p, r, rfl, rfl, sp.b3, sr.b3, we_op <| we_var rfl <| we_var rfl <| ro_i0 <| ro_b0 ⟨_, rfl, fun h => ?_, fun _ => ?_⟩⟩⟩
      · have h : stF (apF p q) + stF (apF q r) < stF (apF p r) := of_decide_eq_true h
        omega
      refine wt_or <| wt_test <| we_op <| we_call <| wa_cons <| we_var rfl <| wa_cons <| we_var rfl <| wa_nil ⟨_, _, rfl, .inl ⟨q, p, rfl, rfl, sq.b3, sp.b3, we_var rfl <| ro_neI ⟨_, rfl, fun h => neA hsym h, fun _ => ?_⟩⟩⟩
      refine wt_test <| we_op <| we_call <| wa_cons <| we_inv T <| we_var rfl ⟨_, _, _, rfl, _, _, _, rfl, cmw (w0.1.mono (by decide)) (w0.2.1.mono (by decide)), wa_nil ⟨_, rfl, .inl ⟨(-p.1, -p.2.1, p.1 * p.2.1 - p.2.2), rfl, w0.1.neg, w0.2.1.neg, ?_, we_call <| wa_cons <| we_var rfl <| wa_nil ⟨_, rfl, .inl ⟨p, rfl, w0.1, w0.2.1, w0.2.2, ro_neI ⟨_, rfl, fun h => neA (st_back p) h, fun _ => ws_next ⟨rfl, rfl⟩⟩⟩⟩⟩⟩⟩
      exact (((sp.x.mul sp.y).mono (show _ ≤ 345 by decide)).sub sp.a).mono (by decide)
    rintro _ _ ⟨rfl, rfl⟩
    refine ws_cut (fun ρ' B5 => ρ' = [some (.scr ns), some penF, o2, some (plP T p), some (plP T q), some (plP T r), some (.int (stF (apF p q))), some (.int (stF (apF q r)))] ∧ B4 = B5) ?_ ?_
    · refine ws_if <| wt_test <| we_op <| we_call <| wa_cons <| we_var rfl <| wa_cons <| we_var rfl <| wa_cons <| we_var rfl <| wa_nil ⟨_, _, _, rfl, .inl ⟨q, p, r, rfl, rfl, rfl, sq.b3, sp.b3, sr.b3, we_op <| we_call <| wa_cons <| we_var rfl <| wa_cons <| we_var rfl <| wa_nil ⟨_, _, rfl, .inl ⟨p, r, rfl, rfl, sp.b3, sr.b3, we_op <| we_var rfl <| we_var rfl <| ro_i0 <| ro_eqI <| ro_neB ⟨_, rfl, fun h => ?_, fun _ => ws_next ⟨rfl, rfl⟩⟩⟩⟩⟩⟩
      refine neA ?_ h
      rw [decide_eq_decide]
      exact ⟨fun h => h.symm, fun h => h.symm⟩
    rintro _ _ ⟨rfl, rfl⟩
    have cw : CMulW p.1 q.2.1 := cmw (w0.1.mono (by decide)) (v0.2.1.mono (by decide))
    refine ws_if <| wt_or <| wt_test <| we_op <| we_call <| wa_cons <| we_op <| we_var rfl <| we_var rfl <| ro_own T ⟨_, _, _, _, _, _, rfl, cw, wa_nil ⟨_, rfl, .inl ⟨mu p q, rfl, (sp.x.add sq.x).mono (by decide), (sp.y.add sq.y).mono (by decide), ((sp.a.add sq.a).add ((sp.x.mul sq.y).mono (show _ ≤ 346 by decide))).mono (by decide), ?_⟩⟩⟩
    refine we_op <| we_call <| wa_cons <| we_var rfl <| wa_nil ⟨_, rfl, .inl ⟨p, rfl, w0.1, w0.2.1, w0.2.2, we_call <| wa_cons <| we_var rfl <| wa_nil ⟨_, rfl, .inl ⟨q, rfl, v0.1, v0.2.1, v0.2.2, ro_i0 <| ro_b0 ⟨_, rfl, fun h => ?_, fun _ => ?_⟩⟩⟩⟩⟩
    · have h := of_decide_eq_true h
      have := st_mu p q
      omega
    refine wt_test <| we_op <| we_op <| we_op <| we_op <| we_call <| wa_cons <| we_var rfl <| wa_nil ⟨_, rfl, .inl ⟨p, rfl, w0.1, w0.2.1, w0.2.2, we_fx T <| we_var rfl ⟨_, _, _, rfl, ro_i0 <| we_fy T <| we_var rfl ⟨_, _, _, rfl, ro_i0 <| we_int <| ro_i (by decide +kernel) <| we_int <| ro_neI ⟨_, rfl, fun h => neA (law_par p) h, fun _ => ws_next ?_⟩⟩⟩⟩⟩
    exact ⟨⟨_, _, _, _, _, _, rfl⟩, by push_cast; omega⟩
  rintro _ B1 ⟨o2, o3, o4, o5, o6, o7, rfl⟩
  exact ws_ret <| we_bl (hk _)
end
end AW

namespace AW
open PySem PySem.Spec PyProof.Rows L2
/-- the law, called as the statement calls it -/
theorem law_at {l : PySem.W.OpenLaw} {w : World} {K : PySem.W.Frag} [CDict K w "DIRECTIONS" L_DIRECTIONS] {mg : Str → Option Value} {fa : Addr} {h : Heap} (T : Tx K mg) (ea : T.a_law = fa) :
    LamX.LawAtS l w K (L2.CX l.prog w) 13 63 "_law_script" mg fa h := by
  subst ea
  letI : Tbs := ⟨[]⟩
  refine ⟨T.d_law, [], spLaw K, (fun p hp => by cases hp), (fun p hp => by cases hp), (fun p hp => by cases hp), fun s u => ?_, fun H a ns hl _ hH hS => ?_, fun base KB hm hb => ?_⟩
  · obtain ⟨oc, od, kV, doc, pm, an, cdv, ct, osl, e, lk, hcd⟩ := T.F_law.ex
    rw [e]
    exact BindsTo.of_eq rfl
  · exact ⟨a, ns, rfl, hS, hl, fun q hq => (by cases hq), fun H' => rfl⟩
  · exact ((okD_law T).mono (by decide)).imp (spLaw_imp fun ns k hl hk => ⟨ns, rfl, hl, rfl, hk⟩)
end AW
local macro_rules
  | `(tactic| refine $e:term) => do
    let s := e.raw
    let n := s[0].getId.eraseMacroScopes
    if s.isOfKind `Lean.Parser.Term.app && s[0].isIdent && (n == `holds_open || n == `PySem.W.holds_open) then
      let isHl (x : Lean.Syntax) : Bool := x.isOfKind `Lean.Parser.Term.syntheticHole && x[1].getId.eraseMacroScopes == `hl
      if (s.find? isHl).isNone then Lean.Macro.throwUnsupported
      let s2 ← s.replaceM fun x => if isHl x then some <$> `(term| ?hl2) else pure none
      `(tactic| (refine $(⟨s2⟩); (case hl2 => exact AW.left_impG AW.hd0 AW.hd1 AW.hd2 AW.hd3 AW.hd4 AW.hd5 (fun _ => rfl))))
    else Lean.Macro.throwUnsupported
open PySem PySem.W PyProof.Rows in
set_option maxRecDepth 100000 in
set_option maxHeartbeats 0 in
theorem PySem.Challenge.cw_areawalks_k71_whole_fewest_steps_told_in_holds : PySem.Challenge.rw_areawalks_k71_whole_fewest_steps_told_in.Holds := by
  w_on; o_law; k_headL; (case hw => w_witness2)
  k_fill
  refine LamX.walk_ofTs (l := PySem.Challenge.rw_areawalks_k71_whole_fewest_steps_told_in) (n := 63) (k := 13) (x := "_law_script") (CX := fun w => L2.CX (PySem.Challenge.rw_areawalks_k71_whole_fewest_steps_told_in).prog w) rfl (by decide) rfl ⟨rfl, by decide, by decide⟩ (fun w h Y => PySem.W.kIn_of Y) ?F ?G
  case G =>
    intro w H s e s' h
    obtain ⟨_, _, _, _, _, _, _, _, _, _, _, _, z⟩ := h
    exact z.elim
  case F =>
    intro w mg fa h Y KX G hmg
    refine' AW.tx_mk  KX G hmg ?g_is_integer ?l_is_integer ?c_is_integer ?k_is_integer ?g_is_whole ?l_is_whole ?c_is_whole ?k_is_whole ?g_check_integer ?l_check_integer ?c_check_integer ?k_check_integer ?g_check_from ?l_check_from ?c_check_from ?k_check_from ?g_check_whole ?l_check_whole ?c_check_whole ?k_check_whole ?g_fewest_steps ?l_fewest_steps ?c_fewest_steps ?k_fewest_steps ?g_quotient_up ?l_quotient_up ?c_quotient_up ?k_quotient_up ?g_half_outline ?l_half_outline ?c_half_outline ?k_half_outline ?g_best_sides ?l_best_sides ?c_best_sides ?k_best_sides ?g_spare_steps ?l_spare_steps ?c_spare_steps ?k_spare_steps ?g_areas_of_walks ?l_areas_of_walks ?c_areas_of_walks ?k_areas_of_walks ?g_check_place ?l_check_place ?c_check_place ?k_check_place ?g_home_place ?l_home_place ?c_home_place ?k_home_place ?g_run_place ?l_run_place ?c_run_place ?k_run_place ?g_is_run ?l_is_run ?c_is_run ?k_is_run ?g_joined_runs ?l_joined_runs ?c_joined_runs ?k_joined_runs ?g_told_runs ?l_told_runs ?c_told_runs ?k_told_runs ?g_corners ?l_corners ?c_corners ?k_corners ?g_ready_walk ?l_ready_walk ?c_ready_walk ?k_ready_walk ?g_check_part ?l_check_part ?c_check_part ?k_check_part ?g_first_too_many ?l_first_too_many ?c_first_too_many ?k_first_too_many ?g_framed_walk ?l_framed_walk ?c_framed_walk ?k_framed_walk ?g_climb ?l_climb ?c_climb ?k_climb ?g_steps ?l_steps ?c_steps ?k_steps ?g_distance ?l_distance ?c_distance ?k_distance ?g_least_walk ?l_least_walk ?c_least_walk ?k_least_walk ?g_walk_of ?l_walk_of ?c_walk_of ?k_walk_of ?g_areas ?l_areas ?c_areas ?k_areas ?g_nearer ?l_nearer ?c_nearer ?k_nearer ?g_first_letters ?l_first_letters ?c_first_letters ?k_first_letters ?g_is_summit ?l_is_summit ?c_is_summit ?k_is_summit ?g_lies_between ?l_lies_between ?c_lies_between ?k_lies_between ?g_built_walk ?l_built_walk ?c_built_walk ?k_built_walk ?g_bezout ?l_bezout ?c_bezout ?k_bezout ?g_cheapest_frame ?l_cheapest_frame ?c_cheapest_frame ?k_cheapest_frame ?g_l_pen ?l_l_pen ?c_l_pen ?k_l_pen ?g_l_draw ?l_l_draw ?c_l_draw ?k_l_draw ?g_l_pick ?l_l_pick ?c_l_pick ?k_l_pick ?g_l_big ?l_l_big ?c_l_big ?k_l_big ?g_l_whole ?l_l_whole ?c_l_whole ?k_l_whole ?g_l_place ?l_l_place ?c_l_place ?k_l_place ?g_l_step ?l_l_step ?c_l_step ?k_l_step ?g_l_drawn ?l_l_drawn ?c_l_drawn ?k_l_drawn ?g_l_local_right ?l_l_local_right ?c_l_local_right ?k_l_local_right ?g_l_walks_right ?l_l_walks_right ?c_l_walks_right ?k_l_walks_right ?g_l_walk_right ?l_l_walk_right ?c_l_walk_right ?k_l_walk_right ?g_law ?l_law ?c_law ?k_law ?g_C_BadNumber ?m_BadNumber_init ?i_BadNumber_init ?l_BadNumber_init ?c_BadNumber_init ?k_BadNumber_init ?sa_BadNumber ?ex_BadNumber ?ty_BadNumber ?kc_BadNumber ?x_BadNumber ?na_BadNumber_value ?g_C_BadPlace ?m_BadPlace_init ?i_BadPlace_init ?l_BadPlace_init ?c_BadPlace_init ?k_BadPlace_init ?sa_BadPlace ?ex_BadPlace ?ty_BadPlace ?kc_BadPlace ?x_BadPlace ?na_BadPlace_value ?g_C_BadWord ?m_BadWord_init ?i_BadWord_init ?l_BadWord_init ?c_BadWord_init ?k_BadWord_init ?sa_BadWord ?ex_BadWord ?ty_BadWord ?kc_BadWord ?x_BadWord ?na_BadWord_value ?g_C_Place ?pg_Place ?hd_Place ?po_Place ?sa_Place ?ca_Place ?cm_Place ?na_Place_x ?na_Place_y ?na_Place_area ?m_Place_init ?i_Place_init ?l_Place_init ?c_Place_init ?k_Place_init ?mk_Place ?kc_Place ?m_Place_eq ?i_Place_eq ?l_Place_eq ?c_Place_eq ?k_Place_eq ?ne_Place ?m_Place_mul ?i_Place_mul ?l_Place_mul ?c_Place_mul ?k_Place_mul ?sf_Place_Mult ?ro_Place_Mult ?m_Place_invert ?i_Place_invert ?l_Place_invert ?c_Place_invert ?k_Place_invert ?g_C_Ready ?pg_Ready ?hd_Ready ?po_Ready ?sa_Ready ?ca_Ready ?cm_Ready ?na_Ready_runs ?m_Ready_init ?i_Ready_init ?l_Ready_init ?c_Ready_init ?k_Ready_init ?mk_Ready ?kc_Ready ?g_C_Walk ?pg_Walk ?hd_Walk ?po_Walk ?sa_Walk ?na_Walk_runs ?m_Walk_init ?i_Walk_init ?l_Walk_init ?c_Walk_init ?k_Walk_init ?mk_Walk ?kc_Walk ?m_Walk_length ?pg_Walk_length ?pt_Walk_length ?pr_Walk_length ?l_Walk_length ?c_Walk_length ?k_Walk_length ?m_Walk_place ?i_Walk_place ?l_Walk_place ?c_Walk_place ?k_Walk_place ?m_Walk_head ?i_Walk_head ?l_Walk_head ?c_Walk_head ?k_Walk_head ?m_Walk_at ?i_Walk_at ?l_Walk_at ?c_Walk_at ?k_Walk_at ?m_Walk_is_least ?i_Walk_is_least ?l_Walk_is_least ?c_Walk_is_least ?k_Walk_is_least ?m_Walk_first_not_least ?i_Walk_first_not_least ?l_Walk_first_not_least ?c_Walk_first_not_least ?k_Walk_first_not_least ?g_C_Bargain ?pg_Bargain ?hd_Bargain ?po_Bargain ?sa_Bargain ?na_Bargain_across ?na_Bargain_up ?na_Bargain_product ?na_Bargain_wide ?na_Bargain_high ?na_Bargain_narrowest ?na_Bargain_widest ?m_Bargain_init ?i_Bargain_init ?l_Bargain_init ?c_Bargain_init ?k_Bargain_init ?mk_Bargain ?kc_Bargain ?m_Bargain_best ?i_Bargain_best ?l_Bargain_best ?c_Bargain_best ?k_Bargain_best ?m_Bargain_frame_by_widths ?i_Bargain_frame_by_widths ?l_Bargain_frame_by_widths ?c_Bargain_frame_by_widths ?k_Bargain_frame_by_widths ?m_Bargain_may_be_cheaper ?i_Bargain_may_be_cheaper ?l_Bargain_may_be_cheaper ?c_Bargain_may_be_cheaper ?k_Bargain_may_be_cheaper ?m_Bargain_frame_by_costs ?i_Bargain_frame_by_costs ?l_Bargain_frame_by_costs ?c_Bargain_frame_by_costs ?k_Bargain_frame_by_costs ?m_Bargain_least_cost ?i_Bargain_least_cost ?l_Bargain_least_cost ?c_Bargain_least_cost ?k_Bargain_least_cost ?m_Bargain_frame_of_cost ?i_Bargain_frame_of_cost ?l_Bargain_frame_of_cost ?c_Bargain_frame_of_cost ?k_Bargain_frame_of_cost ?g_C_Prices ?pg_Prices ?hd_Prices ?po_Prices ?sa_Prices ?na_Prices_east ?na_Prices_north ?na_Prices_west ?na_Prices_south ?m_Prices_init ?i_Prices_init ?l_Prices_init ?c_Prices_init ?k_Prices_init ?mk_Prices ?kc_Prices ?m_Prices_least_price ?i_Prices_least_price ?l_Prices_least_price ?c_Prices_least_price ?k_Prices_least_price ?m_Prices_frame ?i_Prices_frame ?l_Prices_frame ?c_Prices_frame ?k_Prices_frame ?cn ?ct ?io_Place_int ?io_Place_bool ?is_NoneType_Place ?sb_NoneType_Place ?is_bool_Place ?sb_bool_Place ?is_int_Place ?sb_int_Place ?is_str_Place ?sb_str_Place ?is_list_Place ?sb_list_Place ?is_tuple_Place ?sb_tuple_Place ?is_dict_Place ?sb_dict_Place ?is_str_Ready ?is_list_Ready ?is_tuple_Ready ?n_abs ?n_all ?n_bool ?n_divmod ?n_enumerate ?n_int ?n_isinstance ?n_len ?n_list ?n_max ?n_min ?n_range ?n_str ?n_sum ?n_tuple ?n_zip ?gc_MOST_RUNS ?gc_MOST_WIDTHS ?gc_HIGHEST_PRICE ?gc_LETTERS ?gc_DIRECTIONS ?mi_gcd ?mi_isqrt ?kk
    (case g_is_integer => k_is)
    (case l_is_integer => k_is)
    (case c_is_integer => k_is)
    (case k_is_integer => k_is)
    (case g_is_whole => k_is)
    (case l_is_whole => k_is)
    (case c_is_whole => k_is)
    (case k_is_whole => k_is)
    (case g_check_integer => k_is)
    (case l_check_integer => k_is)
    (case c_check_integer => k_is)
    (case k_check_integer => k_is)
    (case g_check_from => k_is)
    (case l_check_from => k_is)
    (case c_check_from => k_is)
    (case k_check_from => k_is)
    (case g_check_whole => k_is)
    (case l_check_whole => k_is)
    (case c_check_whole => k_is)
    (case k_check_whole => k_is)
    (case g_fewest_steps => k_is)
    (case l_fewest_steps => k_is)
    (case c_fewest_steps => k_is)
    (case k_fewest_steps => k_is)
    (case g_quotient_up => k_is)
    (case l_quotient_up => k_is)
    (case c_quotient_up => k_is)
    (case k_quotient_up => k_is)
    (case g_half_outline => k_is)
    (case l_half_outline => k_is)
    (case c_half_outline => k_is)
    (case k_half_outline => k_is)
    (case g_best_sides => k_is)
    (case l_best_sides => k_is)
    (case c_best_sides => k_is)
    (case k_best_sides => k_is)
    (case g_spare_steps => k_is)
    (case l_spare_steps => k_is)
    (case c_spare_steps => k_is)
    (case k_spare_steps => k_is)
    (case g_areas_of_walks => k_is)
    (case l_areas_of_walks => k_is)
    (case c_areas_of_walks => k_is)
    (case k_areas_of_walks => k_is)
    (case g_check_place => k_is)
    (case l_check_place => k_is)
    (case c_check_place => k_is)
    (case k_check_place => k_is)
    (case g_home_place => k_is)
    (case l_home_place => k_is)
    (case c_home_place => k_is)
    (case k_home_place => k_is)
    (case g_run_place => k_is)
    (case l_run_place => k_is)
    (case c_run_place => k_is)
    (case k_run_place => k_is)
    (case g_is_run => k_is)
    (case l_is_run => k_is)
    (case c_is_run => k_is)
    (case k_is_run => k_is)
    (case g_joined_runs => k_is)
    (case l_joined_runs => k_is)
    (case c_joined_runs => k_is)
    (case k_joined_runs => k_is)
    (case g_told_runs => k_is)
    (case l_told_runs => k_is)
    (case c_told_runs => k_is)
    (case k_told_runs => k_is)
    (case g_corners => k_is)
    (case l_corners => k_is)
    (case c_corners => k_is)
    (case k_corners => k_is)
    (case g_ready_walk => k_is)
    (case l_ready_walk => k_is)
    (case c_ready_walk => k_is)
    (case k_ready_walk => k_is)
    (case g_check_part => k_is)
    (case l_check_part => k_is)
    (case c_check_part => k_is)
    (case k_check_part => k_is)
    (case g_first_too_many => k_is)
    (case l_first_too_many => k_is)
    (case c_first_too_many => k_is)
    (case k_first_too_many => k_is)
    (case g_framed_walk => k_is)
    (case l_framed_walk => k_is)
    (case c_framed_walk => k_is)
    (case k_framed_walk => k_is)
    (case g_climb => k_is)
    (case l_climb => k_is)
    (case c_climb => k_is)
    (case k_climb => k_is)
    (case g_steps => k_is)
    (case l_steps => k_is)
    (case c_steps => k_is)
    (case k_steps => k_is)
    (case g_distance => k_is)
    (case l_distance => k_is)
    (case c_distance => k_is)
    (case k_distance => k_is)
    (case g_least_walk => k_is)
    (case l_least_walk => k_is)
    (case c_least_walk => k_is)
    (case k_least_walk => k_is)
    (case g_walk_of => k_is)
    (case l_walk_of => k_is)
    (case c_walk_of => k_is)
    (case k_walk_of => k_is)
    (case g_areas => k_is)
    (case l_areas => k_is)
    (case c_areas => k_is)
    (case k_areas => k_is)
    (case g_nearer => k_is)
    (case l_nearer => k_is)
    (case c_nearer => k_is)
    (case k_nearer => k_is)
    (case g_first_letters => k_is)
    (case l_first_letters => k_is)
    (case c_first_letters => k_is)
    (case k_first_letters => k_is)
    (case g_is_summit => k_is)
    (case l_is_summit => k_is)
    (case c_is_summit => k_is)
    (case k_is_summit => k_is)
    (case g_lies_between => k_is)
    (case l_lies_between => k_is)
    (case c_lies_between => k_is)
    (case k_lies_between => k_is)
    (case g_built_walk => k_is)
    (case l_built_walk => k_is)
    (case c_built_walk => k_is)
    (case k_built_walk => k_is)
    (case g_bezout => k_is)
    (case l_bezout => k_is)
    (case c_bezout => k_is)
    (case k_bezout => k_is)
    (case g_cheapest_frame => k_is)
    (case l_cheapest_frame => k_is)
    (case c_cheapest_frame => k_is)
    (case k_cheapest_frame => k_is)
    (case g_l_pen => k_is)
    (case l_l_pen => k_is)
    (case c_l_pen => k_is)
    (case k_l_pen => k_is)
    (case g_l_draw => k_is)
    (case l_l_draw => k_is)
    (case c_l_draw => k_is)
    (case k_l_draw => k_is)
    (case g_l_pick => k_is)
    (case l_l_pick => k_is)
    (case c_l_pick => k_is)
    (case k_l_pick => k_is)
    (case g_l_big => k_is)
    (case l_l_big => k_is)
    (case c_l_big => k_is)
    (case k_l_big => k_is)
    (case g_l_whole => k_is)
    (case l_l_whole => k_is)
    (case c_l_whole => k_is)
    (case k_l_whole => k_is)
    (case g_l_place => k_is)
    (case l_l_place => k_is)
    (case c_l_place => k_is)
    (case k_l_place => k_is)
    (case g_l_step => k_is)
    (case l_l_step => k_is)
    (case c_l_step => k_is)
    (case k_l_step => k_is)
    (case g_l_drawn => k_is)
    (case l_l_drawn => k_is)
    (case c_l_drawn => k_is)
    (case k_l_drawn => k_is)
    (case g_l_local_right => k_is)
    (case l_l_local_right => k_is)
    (case c_l_local_right => k_is)
    (case k_l_local_right => k_is)
    (case g_l_walks_right => k_is)
    (case l_l_walks_right => k_is)
    (case c_l_walks_right => k_is)
    (case k_l_walks_right => k_is)
    (case g_l_walk_right => k_is)
    (case l_l_walk_right => k_is)
    (case c_l_walk_right => k_is)
    (case k_l_walk_right => k_is)
    (case g_law => k_is)
    (case l_law => k_is)
    (case c_law => k_is)
    (case k_law => k_is)
    (case g_C_BadNumber => k_is)
    (case m_BadNumber_init => k_is)
    (case i_BadNumber_init => k_is)
    (case l_BadNumber_init => k_is)
    (case c_BadNumber_init => k_is)
    (case k_BadNumber_init => k_is)
    (case sa_BadNumber => k_is)
    (case ex_BadNumber => k_is)
    (case ty_BadNumber => k_is)
    (case kc_BadNumber => k_is)
    (case x_BadNumber => k_is)
    (case na_BadNumber_value => k_is)
    (case g_C_BadPlace => k_is)
    (case m_BadPlace_init => k_is)
    (case i_BadPlace_init => k_is)
    (case l_BadPlace_init => k_is)
    (case c_BadPlace_init => k_is)
    (case k_BadPlace_init => k_is)
    (case sa_BadPlace => k_is)
    (case ex_BadPlace => k_is)
    (case ty_BadPlace => k_is)
    (case kc_BadPlace => k_is)
    (case x_BadPlace => k_is)
    (case na_BadPlace_value => k_is)
    (case g_C_BadWord => k_is)
    (case m_BadWord_init => k_is)
    (case i_BadWord_init => k_is)
    (case l_BadWord_init => k_is)
    (case c_BadWord_init => k_is)
    (case k_BadWord_init => k_is)
    (case sa_BadWord => k_is)
    (case ex_BadWord => k_is)
    (case ty_BadWord => k_is)
    (case kc_BadWord => k_is)
    (case x_BadWord => k_is)
    (case na_BadWord_value => k_is)
    (case g_C_Place => k_is)
    (case pg_Place => k_is)
    (case hd_Place => k_is)
    (case po_Place => k_is)
    (case sa_Place => k_is)
    (case ca_Place => k_is)
    (case cm_Place => k_is)
    (case na_Place_x => k_is)
    (case na_Place_y => k_is)
    (case na_Place_area => k_is)
    (case m_Place_init => k_is)
    (case i_Place_init => k_is)
    (case l_Place_init => k_is)
    (case c_Place_init => k_is)
    (case k_Place_init => k_is)
    (case mk_Place => k_is)
    (case kc_Place => k_is)
    (case m_Place_eq => k_is)
    (case i_Place_eq => k_is)
    (case l_Place_eq => k_is)
    (case c_Place_eq => k_is)
    (case k_Place_eq => k_is)
    (case ne_Place => k_is)
    (case m_Place_mul => k_is)
    (case i_Place_mul => k_is)
    (case l_Place_mul => k_is)
    (case c_Place_mul => k_is)
    (case k_Place_mul => k_is)
    (case sf_Place_Mult => k_is)
    (case ro_Place_Mult => k_is)
    (case m_Place_invert => k_is)
    (case i_Place_invert => k_is)
    (case l_Place_invert => k_is)
    (case c_Place_invert => k_is)
    (case k_Place_invert => k_is)
    (case g_C_Ready => k_is)
    (case pg_Ready => k_is)
    (case hd_Ready => k_is)
    (case po_Ready => k_is)
    (case sa_Ready => k_is)
    (case ca_Ready => k_is)
    (case cm_Ready => k_is)
    (case na_Ready_runs => k_is)
    (case m_Ready_init => k_is)
    (case i_Ready_init => k_is)
    (case l_Ready_init => k_is)
    (case c_Ready_init => k_is)
    (case k_Ready_init => k_is)
    (case mk_Ready => k_is)
    (case kc_Ready => k_is)
    (case g_C_Walk => k_is)
    (case pg_Walk => k_is)
    (case hd_Walk => k_is)
    (case po_Walk => k_is)
    (case sa_Walk => k_is)
    (case na_Walk_runs => k_is)
    (case m_Walk_init => k_is)
    (case i_Walk_init => k_is)
    (case l_Walk_init => k_is)
    (case c_Walk_init => k_is)
    (case k_Walk_init => k_is)
    (case mk_Walk => k_is)
    (case kc_Walk => k_is)
    (case m_Walk_length => k_is)
    (case pg_Walk_length => k_is)
    (case pt_Walk_length => k_is)
    (case pr_Walk_length => k_is)
    (case l_Walk_length => k_is)
    (case c_Walk_length => k_is)
    (case k_Walk_length => k_is)
    (case m_Walk_place => k_is)
    (case i_Walk_place => k_is)
    (case l_Walk_place => k_is)
    (case c_Walk_place => k_is)
    (case k_Walk_place => k_is)
    (case m_Walk_head => k_is)
    (case i_Walk_head => k_is)
    (case l_Walk_head => k_is)
    (case c_Walk_head => k_is)
    (case k_Walk_head => k_is)
    (case m_Walk_at => k_is)
    (case i_Walk_at => k_is)
    (case l_Walk_at => k_is)
    (case c_Walk_at => k_is)
    (case k_Walk_at => k_is)
    (case m_Walk_is_least => k_is)
    (case i_Walk_is_least => k_is)
    (case l_Walk_is_least => k_is)
    (case c_Walk_is_least => k_is)
    (case k_Walk_is_least => k_is)
    (case m_Walk_first_not_least => k_is)
    (case i_Walk_first_not_least => k_is)
    (case l_Walk_first_not_least => k_is)
    (case c_Walk_first_not_least => k_is)
    (case k_Walk_first_not_least => k_is)
    (case g_C_Bargain => k_is)
    (case pg_Bargain => k_is)
    (case hd_Bargain => k_is)
    (case po_Bargain => k_is)
    (case sa_Bargain => k_is)
    (case na_Bargain_across => k_is)
    (case na_Bargain_up => k_is)
    (case na_Bargain_product => k_is)
    (case na_Bargain_wide => k_is)
    (case na_Bargain_high => k_is)
    (case na_Bargain_narrowest => k_is)
    (case na_Bargain_widest => k_is)
    (case m_Bargain_init => k_is)
    (case i_Bargain_init => k_is)
    (case l_Bargain_init => k_is)
    (case c_Bargain_init => k_is)
    (case k_Bargain_init => k_is)
    (case mk_Bargain => k_is)
    (case kc_Bargain => k_is)
    (case m_Bargain_best => k_is)
    (case i_Bargain_best => k_is)
    (case l_Bargain_best => k_is)
    (case c_Bargain_best => k_is)
    (case k_Bargain_best => k_is)
    (case m_Bargain_frame_by_widths => k_is)
    (case i_Bargain_frame_by_widths => k_is)
    (case l_Bargain_frame_by_widths => k_is)
    (case c_Bargain_frame_by_widths => k_is)
    (case k_Bargain_frame_by_widths => k_is)
    (case m_Bargain_may_be_cheaper => k_is)
    (case i_Bargain_may_be_cheaper => k_is)
    (case l_Bargain_may_be_cheaper => k_is)
    (case c_Bargain_may_be_cheaper => k_is)
    (case k_Bargain_may_be_cheaper => k_is)
    (case m_Bargain_frame_by_costs => k_is)
    (case i_Bargain_frame_by_costs => k_is)
    (case l_Bargain_frame_by_costs => k_is)
    (case c_Bargain_frame_by_costs => k_is)
    (case k_Bargain_frame_by_costs => k_is)
    (case m_Bargain_least_cost => k_is)
    (case i_Bargain_least_cost => k_is)
    (case l_Bargain_least_cost => k_is)
    (case c_Bargain_least_cost => k_is)
    (case k_Bargain_least_cost => k_is)
    (case m_Bargain_frame_of_cost => k_is)
    (case i_Bargain_frame_of_cost => k_is)
    (case l_Bargain_frame_of_cost => k_is)
    (case c_Bargain_frame_of_cost => k_is)
    (case k_Bargain_frame_of_cost => k_is)
    (case g_C_Prices => k_is)
    (case pg_Prices => k_is)
    (case hd_Prices => k_is)
    (case po_Prices => k_is)
    (case sa_Prices => k_is)
    (case na_Prices_east => k_is)
    (case na_Prices_north => k_is)
    (case na_Prices_west => k_is)
    (case na_Prices_south => k_is)
    (case m_Prices_init => k_is)
    (case i_Prices_init => k_is)
    (case l_Prices_init => k_is)
    (case c_Prices_init => k_is)
    (case k_Prices_init => k_is)
    (case mk_Prices => k_is)
    (case kc_Prices => k_is)
    (case m_Prices_least_price => k_is)
    (case i_Prices_least_price => k_is)
    (case l_Prices_least_price => k_is)
    (case c_Prices_least_price => k_is)
    (case k_Prices_least_price => k_is)
    (case m_Prices_frame => k_is)
    (case i_Prices_frame => k_is)
    (case l_Prices_frame => k_is)
    (case c_Prices_frame => k_is)
    (case k_Prices_frame => k_is)
    (case cn => k_is)
    (case ct => k_is)
    (case io_Place_int => kit_is)
    (case io_Place_bool => kit_is)
    (case is_NoneType_Place => kit_is)
    (case sb_NoneType_Place => k_is)
    (case is_bool_Place => kit_is)
    (case sb_bool_Place => k_is)
    (case is_int_Place => kit_is)
    (case sb_int_Place => k_is)
    (case is_str_Place => kit_is)
    (case sb_str_Place => k_is)
    (case is_list_Place => kit_is)
    (case sb_list_Place => k_is)
    (case is_tuple_Place => kit_is)
    (case sb_tuple_Place => k_is)
    (case is_dict_Place => kit_is)
    (case sb_dict_Place => k_is)
    (case is_str_Ready => kit_is)
    (case is_list_Ready => kit_is)
    (case is_tuple_Ready => kit_is)
    (case n_abs => k_is)
    (case n_all => k_is)
    (case n_bool => k_is)
    (case n_divmod => k_is)
    (case n_enumerate => k_is)
    (case n_int => k_is)
    (case n_isinstance => k_is)
    (case n_len => k_is)
    (case n_list => k_is)
    (case n_max => k_is)
    (case n_min => k_is)
    (case n_range => k_is)
    (case n_str => k_is)
    (case n_sum => k_is)
    (case n_tuple => k_is)
    (case n_zip => k_is)
    (case gc_MOST_RUNS => k_is)
    (case gc_MOST_WIDTHS => k_is)
    (case gc_HIGHEST_PRICE => k_is)
    (case gc_LETTERS => k_is)
    (case gc_DIRECTIONS => k_is)
    (case mi_gcd => k_is)
    (case mi_isqrt => k_is)
    (case kk =>
      intro T ea
      refine' AW.cd_use_DIRECTIONS (w := w) KX ?cdx ?cdy ?cdz ?cds ?cdl0 ?cdv0 ?cdl1 ?cdv1 ?cdl2 ?cdv2 ?cdl3 ?cdv3 ?cdf
      (case cdx => k_is)
      (case cdy => k_is)
      (case cdz => rfl)
      (case cds => rfl)
      (case cdl0 => k_is)
      (case cdv0 => rfl)
      (case cdl1 => k_is)
      (case cdv1 => rfl)
      (case cdl2 => k_is)
      (case cdv2 => rfl)
      (case cdl3 => k_is)
      (case cdv3 => rfl)
      case cdf => 
      intro cd_DIRECTIONS
      haveI := cd_DIRECTIONS
      exact AW.law_at T ea)

