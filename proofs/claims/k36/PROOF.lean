import PyProof.Rows.All
import Wide.All
import OpenK.AllK
import Wide.FinOn
import PyProof.InstEq
import HandS.ForMost
import HandS.IsInst
import HandS.OwnEq
import HandS.SlotsOwn
import HandS.NamedTupSort
import HandS.Exc
import HandS.TryMany
import HandS.ExcField
import HandS.WordsExc
import HandS.Lambda
import OpenK.KOwn
import HandS.Gcd
import HandS.ExcOwn
import HandS.Small
import PyProof.ExcBaseAll.ValueError
import KE.KCallOwn
import HandS.Deep
import KE.DatumOrd
import KE.LtData
import KE.KDictDisplayH
import HandS.Iter
import HandS.Conv
import HandS.SortInts
import HandS.More
import KE.KDictCopyH
import KE.GoesEnum
import HandS.Star
import HandS.TupMul
import HandS.Style
import HandS.ExcIs
import HandS.Sort
import KE.KExcIs
import KE.KDictWalk
import PyProof.NeKinds
import HandS.Zip
import KE.GoesZip
import KE.GoesMore
import HandS.SortKw
import HandS.ExcInit
import HandS.Wide
import HandS.Walk
import HandS.NoneIn
import HandS.CallLocal
import HandS.Text
import HandS.Property
import HandS.StrMore
import HandS.TupAny
import HandS.Replace
import KE.IntTextLaws
import KE.KMathG
import HandS.Flow
import KE.RegKIsAll
import KE.RegKTryMore
import KE.KNestM
import HandS.MakeKw
import HandS.Defaults
import HandS.EndTab
import KE.OsRunLaw
import PySem.Challenge.RW_areawalks_k36_whole_forward_places
set_option Elab.async false
namespace AW
open PySem PySem.W PySem.Calls PyProof.Rows HeadRun
/-- the head from one run, looked at in several theorems -/
theorem left_impG {p q : Program} {loose : List PySem.Str} {Xt : Shared → Bool} {K : Params → Frag} {as : List Addr} {ek : ∀ P, as = (K P).map (·.1)} {N : Nat}
    (r0 : ∀ w : World, (wholeF (fun p => stepQ (denQ tabQ) p w) fenceQ N p).map (fun x => (looksF p x.1.heap x.2.abs, (K w.params).map fun y => getT x.2 y.1)) = some (true, (K w.params).map fun x => some x.2))
    (r1 : ∀ w : World, (wholeF (fun p => stepQ (denQ tabQ) p w) fenceQ N p).map (fun x => ((seenQ q loose (importedModules p.main.body) Xt x.2.abs).2.1, (seenQ q loose (importedModules p.main.body) Xt x.2.abs).2.2.2.2.1, (seenQ q loose (importedModules p.main.body) Xt x.2.abs).2.2.2.2.2.2.1, (seenQ q loose (importedModules p.main.body) Xt x.2.abs).2.2.2.2.2.2.2.2)) = some (bltViewBooted, pinGoodD (drecsOf q), plainGoodD q loose, clsGoodW q loose))
    (r2 : ∀ w : World, (wholeF (fun p => stepQ (denQ tabQ) p w) fenceQ N p).map (fun x => ((seenQ q loose (importedModules p.main.body) Xt x.2.abs).2.2.1, (seenQ q loose (importedModules p.main.body) Xt x.2.abs).2.2.2.2.2.2.2.1)) = some (true, wideGood q))
    (r3 : ∀ w : World, (wholeF (fun p => stepQ (denQ tabQ) p w) fenceQ N p).map (fun x => (seenQ q loose (importedModules p.main.body) Xt x.2.abs).1) = some (expectedOf q))
    (r4 : ∀ w : World, (wholeF (fun p => stepQ (denQ tabQ) p w) fenceQ N p).map (fun x => (seenQ q loose (importedModules p.main.body) Xt x.2.abs).2.2.2.1) = some (true))
    (r5 : ∀ w : World, (wholeF (fun p => stepQ (denQ tabQ) p w) fenceQ N p).map (fun x => (seenQ q loose (importedModules p.main.body) Xt x.2.abs).2.2.2.2.2.1) = some (plainGoodE q (looseW q loose)))
    (_rz : ∀ _ : World, (0 : Nat) = 0) :
    LeftO p q loose Xt (Hook.obs (kHook K as ek)) (Hook.val (kHook K as ek)) N true :=
  left_impK fun w => by
    have h0 := r0 w
    have h1 := r1 w
    have h2 := r2 w
    have h3 := r3 w
    have h4 := r4 w
    have h5 := r5 w
    cases e : wholeF (fun p => stepQ (denQ tabQ) p w) fenceQ N p with
    | none => rw [e] at h0; cases h0
    | some x =>
      rw [e] at h0 h1 h2 h3 h4 h5
      have h0 := Option.some.inj h0
      have h1 := Option.some.inj h1
      have h2 := Option.some.inj h2
      have h3 := Option.some.inj h3
      have h4 := Option.some.inj h4
      have h5 := Option.some.inj h5
      have hS : seenQ q loose (importedModules p.main.body) Xt x.2.abs = openGood q loose :=
        Prod.ext h3 (Prod.ext (Prod.mk.inj h1).1 (Prod.ext (Prod.mk.inj h2).1 (Prod.ext h4 (Prod.ext (Prod.mk.inj (Prod.mk.inj h1).2).1 (Prod.ext h5 (Prod.ext (Prod.mk.inj (Prod.mk.inj (Prod.mk.inj h1).2).2).1 (Prod.ext (Prod.mk.inj h2).2 (Prod.mk.inj (Prod.mk.inj (Prod.mk.inj h1).2).2).2)))))))
      have hK : as.map (getT x.2) = (K w.params).map fun x => some x.2 := by
        rw [ek w.params, List.map_map]
        exact (Prod.mk.inj h0).2
      exact congrArg some (Prod.ext (Prod.mk.inj h0).1 (Prod.ext hS hK))
end AW
section
local macro_rules
  | `(tactic| refine $e:term) => do
    let s := e.raw
    let n := s[0].getId.eraseMacroScopes
    if s.isOfKind `Lean.Parser.Term.app && s[0].isIdent && (n == `holds_open || n == `PySem.W.holds_open) then
      `(tactic| exact False.elim (by assumption))
    else Lean.Macro.throwUnsupported
open PySem PySem.W PyProof.Rows in
set_option maxRecDepth 100000 in
set_option maxHeartbeats 0 in
theorem AW.pre (HNO : False) : PySem.Challenge.rw_areawalks_k36_whole_forward_places.Holds := by
  w_on; o_law; k_headL
end
section
open PySem PySem.W PySem.Calls PyProof.Rows HeadRun
set_option maxRecDepth 100000
set_option maxHeartbeats 0
theorem AW.hd0 : ∀ w : World, (wholeF (fun p => stepQ (denQ tabQ) p w) fenceQ 10114 PySem.Challenge.rw_areawalks_k36_whole_forward_places.row.prog).map (fun x => (looksF PySem.Challenge.rw_areawalks_k36_whole_forward_places.row.prog x.1.heap x.2.abs, (AW.pre.heap_39 w.params).map fun y => getT x.2 y.1)) = some (true, (AW.pre.heap_39 w.params).map fun x => some x.2) := by
  intro w; kernel_rfl
theorem AW.hd1 : ∀ w : World, (wholeF (fun p => stepQ (denQ tabQ) p w) fenceQ 10114 PySem.Challenge.rw_areawalks_k36_whole_forward_places.row.prog).map (fun x => ((seenQ AW.pre.view_39 [] (importedModules PySem.Challenge.rw_areawalks_k36_whole_forward_places.row.prog.main.body) (fun s => xlAt AW.pre.view_39 [] s && recOk PySem.Challenge.rw_areawalks_k36_whole_forward_places.row.records s) x.2.abs).2.1, (seenQ AW.pre.view_39 [] (importedModules PySem.Challenge.rw_areawalks_k36_whole_forward_places.row.prog.main.body) (fun s => xlAt AW.pre.view_39 [] s && recOk PySem.Challenge.rw_areawalks_k36_whole_forward_places.row.records s) x.2.abs).2.2.2.2.1, (seenQ AW.pre.view_39 [] (importedModules PySem.Challenge.rw_areawalks_k36_whole_forward_places.row.prog.main.body) (fun s => xlAt AW.pre.view_39 [] s && recOk PySem.Challenge.rw_areawalks_k36_whole_forward_places.row.records s) x.2.abs).2.2.2.2.2.2.1, (seenQ AW.pre.view_39 [] (importedModules PySem.Challenge.rw_areawalks_k36_whole_forward_places.row.prog.main.body) (fun s => xlAt AW.pre.view_39 [] s && recOk PySem.Challenge.rw_areawalks_k36_whole_forward_places.row.records s) x.2.abs).2.2.2.2.2.2.2.2)) = some (bltViewBooted, pinGoodD (drecsOf AW.pre.view_39), plainGoodD AW.pre.view_39 [], clsGoodW AW.pre.view_39 []) := by
  intro w; kernel_rfl
theorem AW.hd2 : ∀ w : World, (wholeF (fun p => stepQ (denQ tabQ) p w) fenceQ 10114 PySem.Challenge.rw_areawalks_k36_whole_forward_places.row.prog).map (fun x => ((seenQ AW.pre.view_39 [] (importedModules PySem.Challenge.rw_areawalks_k36_whole_forward_places.row.prog.main.body) (fun s => xlAt AW.pre.view_39 [] s && recOk PySem.Challenge.rw_areawalks_k36_whole_forward_places.row.records s) x.2.abs).2.2.1, (seenQ AW.pre.view_39 [] (importedModules PySem.Challenge.rw_areawalks_k36_whole_forward_places.row.prog.main.body) (fun s => xlAt AW.pre.view_39 [] s && recOk PySem.Challenge.rw_areawalks_k36_whole_forward_places.row.records s) x.2.abs).2.2.2.2.2.2.2.1)) = some (true, wideGood AW.pre.view_39) := by
  intro w; kernel_rfl
theorem AW.hd3 : ∀ w : World, (wholeF (fun p => stepQ (denQ tabQ) p w) fenceQ 10114 PySem.Challenge.rw_areawalks_k36_whole_forward_places.row.prog).map (fun x => (seenQ AW.pre.view_39 [] (importedModules PySem.Challenge.rw_areawalks_k36_whole_forward_places.row.prog.main.body) (fun s => xlAt AW.pre.view_39 [] s && recOk PySem.Challenge.rw_areawalks_k36_whole_forward_places.row.records s) x.2.abs).1) = some (expectedOf AW.pre.view_39) := by
  intro w; kernel_rfl
theorem AW.hd4 : ∀ w : World, (wholeF (fun p => stepQ (denQ tabQ) p w) fenceQ 10114 PySem.Challenge.rw_areawalks_k36_whole_forward_places.row.prog).map (fun x => (seenQ AW.pre.view_39 [] (importedModules PySem.Challenge.rw_areawalks_k36_whole_forward_places.row.prog.main.body) (fun s => xlAt AW.pre.view_39 [] s && recOk PySem.Challenge.rw_areawalks_k36_whole_forward_places.row.records s) x.2.abs).2.2.2.1) = some (true) := by
  intro w; kernel_rfl
theorem AW.hd5 : ∀ w : World, (wholeF (fun p => stepQ (denQ tabQ) p w) fenceQ 10114 PySem.Challenge.rw_areawalks_k36_whole_forward_places.row.prog).map (fun x => (seenQ AW.pre.view_39 [] (importedModules PySem.Challenge.rw_areawalks_k36_whole_forward_places.row.prog.main.body) (fun s => xlAt AW.pre.view_39 [] s && recOk PySem.Challenge.rw_areawalks_k36_whole_forward_places.row.records s) x.2.abs).2.2.2.2.2.1) = some (plainGoodE AW.pre.view_39 (looseW AW.pre.view_39 [])) := by
  intro w; kernel_rfl
end
set_option linter.all false
set_option maxRecDepth 100000
set_option maxHeartbeats 4000000
namespace AWR
open PySem PySem.W PyProof.Rows Builtin
section
variable {prog : Program} {w : World} {A : Around} {E : Value → Shared → Prop} {s : Shared} {K : Frag} {x C f : Addr} {ox : Obj} {oD : Option Obj} {b tb : Value}
end
end AWR

set_option linter.all false
set_option maxRecDepth 100000
set_option maxHeartbeats 4000000
namespace AWR
open PySem PySem.W PyProof.Rows Builtin
section
variable {prog : Program} {w : World} {A : Around} {E : Value → Shared → Prop} {s : Shared} {K : Frag} {x C f : Addr} {ox : Obj} {od : Option Obj} {b tb : Value}
theorem tryM {nm : Str} {Q : Option Value → Shared → Prop} (X : K.In s.heap) (I : InstAt s.heap x ox C od) (hs : findIn K (.ref C) nm = some (some (.ref f))) (hf : isFn K (.ref f) = true)
    (h : wpAny (model prog w) A (call (.ref f) [.ref x, b]) (W.CmpBack fun v => Q (some v)) E s) : wpAny (model prog w) A (tryMethod (.ref x) nm b) Q E s := by
  unfold tryMethod
  refine wpAny_bind (special_fn X I hs (beq_iff_eq.mp hf) (wpAny_mono h (fun v s' hv => ?_) fun _ _ e => e))
  cases v <;> first | exact hv.elim | exact wpAny_pure hv
theorem fills_ty {M : Model} {h : Heap} {n nm : String} {r1 r2 : Option Value} (X : K.In h) (h1 : findIn K (.type n) (PySem.dunder nm) = some r1) (h2 : findIn K (.type n) (PySem.dunderR nm) = some r2) :
    Looks M h (fillsNumberSlot (.type n) nm) ((r1.isSome && !isSeqSlot r1) || (r2.isSome && !isSeqSlot r2)) := by
  unfold fillsNumberSlot
  exact (looks_findIn X h1).andThen ((looks_findIn X h2).andThen .now)
theorem inPy {M : Model} {h : Heap} {nm : String} (X : K.In h) (h1 : findIn K (.ref C) (PySem.dunder nm) = some (some (.ref f))) (h2 : findIn K (.ref C) (PySem.dunderR nm) = some none) :
    Looks M h (numberSlotInPython (.ref C) nm) true := by
  unfold numberSlotInPython
  refine (looks_findIn X h1).andThen ?_
  refine Looks.andThen (a := true) .now ?_
  refine (looks_findIn X h2).andThen ?_
  refine Looks.andThen (a := false) .now ?_
  exact .now
theorem binop_ty {op : Operator} {n : String} {r1 r2 : Option Value} {Q : Value → Shared → Prop} (X : K.In s.heap) (I : InstAt s.heap x ox C od) (hb : Looks (model prog w) s.heap (typeOf b) (.type n)) (hc : selfFirst K C = true)
    (hs : findIn K (.ref C) (PySem.dunder op.info.2) = some (some (.ref f))) (hr : findIn K (.ref C) (PySem.dunderR op.info.2) = some none) (hf : isFn K (.ref f) = true)
    (h1 : findIn K (.type n) (PySem.dunder op.info.2) = some r1) (h2 : findIn K (.type n) (PySem.dunderR op.info.2) = some r2) (hsub : subIn K (.type n) (.ref C) = some false)
    (h : wpAny (model prog w) A (call (.ref f) [.ref x, b]) (W.CmpBack Q) E s) : wpAny (model prog w) A (binaryOp op (.ref x) b) Q E s := by
  obtain ⟨cd, hcd, hm⟩ := any_some hc
  obtain ⟨rest, hm⟩ : ∃ rest, cd.mro = .ref C :: rest := by
    cases q : cd.mro with
    | nil => rw [q] at hm; cases hm
    | cons a r => rw [q] at hm; exact ⟨r, by rw [List.head?_cons] at hm; cases (beq_iff_eq.mp hm); rfl⟩
  unfold binaryOp
  refine wpAny_holding (wpAny_bind ?_)
  unfold binaryOp1
  refine wpAny_bind (I.type.here (wpAny_bind (hb.here (wpAny_bind ((fills_K X hcd hm hs).here ?_)))))
  rw [if_neg (by simp)]
  refine wpAny_bind ((fills_ty X h1 h2).here ?_)
  have last : wpAny (model prog w) A (tryMethod (.ref x) (PySem.dunder op.info.2) b) (fun r s' => ∃ v, r = some v ∧ Q v s') E s := tryM X I hs hf (wpAny_mono h (fun v s' hv => by cases v <;> first | exact hv.elim | exact ⟨_, rfl, hv⟩) fun _ _ e => e)
  cases hR : ((r1.isSome && !isSeqSlot r1) || (r2.isSome && !isSeqSlot r2)) with
  | false =>
    simp only [Bool.and_false, Bool.false_eq_true, if_false, Bool.false_and]
    refine wpAny_bind (wpAny_pure ?_)
    simp only [Bool.false_eq_true, if_false, if_true]
    refine wpAny_bind (m := tryMethod (.ref x) _ b) (wpAny_mono last (fun r s' z => ?_) fun _ _ e => e)
    obtain ⟨v, rfl, hq⟩ := z
    exact wpAny_pure (wpAny_pure hq)
  | true =>
    simp only [Bool.and_true, Bool.and_self, if_true]
    refine wpAny_bind ((looks_subIn X hsub).here ?_)
    simp only [Bool.false_eq_true, if_false]
    simp only [Bool.not_false, if_true]
    refine wpAny_bind ((inPy X hs hr).here ?_)
    simp only [if_true]
    refine wpAny_bind (m := numberSlotInPython (.type n) _) ?_
    refine wpAny_pure ?_
    simp only [Bool.not_false, if_true]
    refine wpAny_bind ((looks_findIn X h2).here ?_)
    refine wpAny_bind (m := tryMethod (.ref x) _ b) (wpAny_mono last (fun r s' z => ?_) fun _ _ e => e)
    obtain ⟨v, rfl, hq⟩ := z
    exact wpAny_pure (wpAny_pure hq)
end
end AWR

set_option linter.all false
set_option maxRecDepth 100000
set_option maxHeartbeats 4000000
namespace AW
open PySem PySem.Spec PyProof.Rows L2
section
variable {X : Cx} {CX : CXT} {k : Nat} {C f : Addr} {fd : FuncData} {ps : List Str} {sp : Sp} {E : XK}
/-- a def of the text runs, at some depth -/
theorem run_in {pins : List (Addr × Obj)} {σ : L2.St} {H : Hp} {s : Shared} {Q : VK} {us : List Value} {vs : List V} {A : Around} (F : FnOk X.prog X.w X.K X.mg X.base CX k f fd ps sp) (hr : Room k A) (fr : A.frames = X.A.frames) (hb : Binds X.K fd ps [])
    (hx : Passes CX X E) (iv : Inv X pins σ H s) (r : Vals vs us) (h : sp vs H Q E) : wpAny (model X.prog X.w) A (call (.ref f) us) (EP X pins σ Q) X.xe s := by
  have hl : (us ++ []).length = ps.length := by rw [List.append_nil, ← r.length]; exact F.len _ _ _ _ h
  have e0 : Env0 X.prog X.w X.K X.mg X.base A X.stack s H := by
    have e := iv.env0
    exact ⟨by rw [fr]; exact e.frames, e.mod, e.bs, e.bsz, e.funs, e.frf, e.hok, e.bare⟩
  refine wpAny_call (codeAny_mono (F.run A X.stack s H ⟨us, []⟩ us vs Q E hr e0 (by simpa using hb s us iv.kIn hl) r h) fun r s' kq => ?_)
  cases r with
  | error e => exact hx pins σ H s e s' iv kq
  | ok fl =>
    cases fl with
    | ret u => exact iv.after kq
    | next => exact False.elim kq
    | brk => exact False.elim kq
    | cont => exact False.elim kq
theorem rr (a : Addr) : L2.RelV (.ref a) (.ref a) := rfl
/-- the type of a value, read -/
theorem ty_looks {x : V} {u t : Value} {pins : List (Addr × Obj)} {σ : L2.St} {H : Hp} {s : Shared} (iv : Inv X pins σ H s) (rx : RelV x u) (ty : TyX X.K H x t) : PySem.W.Looks (model X.prog X.w) s.heap (typeOf u) t := by
  obtain ⟨P, Z, p, hx⟩ := kit_of iv rx ty
  exact Z.ty _ _ iv.kIn p
/-- what the class's == (own __eq__, object's __ne__) asks -/
structure EqC (K : PySem.W.Frag) (C f : Addr) : Prop where
  eq : PySem.W.findIn K (.ref C) "__eq__" = some (some (.ref f))
  fn : PySem.W.isFn K (.ref f) = true
  ne : PySem.W.findIn K (.ref C) "__ne__" = some (some (.builtin "object.__ne__"))
  mo : PySem.W.mroIn K C (.type "object") = some true
/-- a == b by the own __eq__ of a -/
def rEqO (K : PySem.W.Frag) (C : Addr) (sp : Sp) (E : XK) (g : Bool → Bool) : R2 := fun x y H Q => ∃ a dx fs t, x = .ref a ∧ H a = some (.ins C dx fs) ∧ TyX K H y t ∧ PySem.W.notFirst K C t = true ∧ sp [x, y] H (fun z H' => ∃ b, z = .bl b ∧ Q (.bl (g b)) H') E
theorem op_eqO (T : EqC X.K C f) (F : FnOk X.prog X.w X.K X.mg X.base CX k f fd ps sp) (hr : Room (k + 1) X.A) (hb : Binds X.K fd ps []) (hx : Passes CX X E) : OpR X (compareOp .Eq) (rEqO X.K C sp E id) := by
  intro pins s σ H x y v u Q iv rx ry kq
  obtain ⟨a, dx, fs, t, rfl, ha, ty, hn, q⟩ := kq
  cases rx
  obtain ⟨mo, jv, _⟩ := ins_get iv.hok ha
  obtain ⟨od, jv, _⟩ := jv.look
  obtain ⟨m, hF⟩ := iv.fr
  show wpAny (model X.prog X.w) X.A (richCompare .Eq (.ref a) u) (EP X pins σ Q) X.xe s
  refine PySem.W.cmp_K (op := .Eq) (tb := t) hr.units0 hF iv.ok.mod.kin jv (ty_looks iv ry ty) hn T.eq T.fn ?_
  refine wpAny_mono (run_in F (hr.mono (Nat.le_succ k)) rfl hb hx iv (.cons (rr a) (.cons ry .nil)) q) (fun z s' h => ?_) fun _ _ z => z
  obtain ⟨z', H', I', rz, b, ez, qz⟩ := h
  subst ez
  cases rz
  exact ⟨.bl b, H', I', rfl, qz⟩
/-- a op b by a's own method, b of the same class or of a built-in one -/
inductive RtOk (K : PySem.W.Frag) (C : Addr) (op : Operator) : Value → Prop where
  | same : RtOk K C op (.ref C)
  | ty {n : String} {r1 r2 : Option Value} (h1 : PySem.W.findIn K (.type n) (PySem.dunder op.info.2) = some r1) (h2 : PySem.W.findIn K (.type n) (PySem.dunderR op.info.2) = some r2) (hs : PySem.W.subIn K (.type n) (.ref C) = some false) : RtOk K C op (.type n)
structure OpC (K : PySem.W.Frag) (C f : Addr) (op : Operator) : Prop where
  self : PySem.W.selfFirst K C = true
  bop : PySem.W.findIn K (.ref C) (PySem.dunder op.info.2) = some (some (.ref f))
  rop : PySem.W.findIn K (.ref C) (PySem.dunderR op.info.2) = some none
  fn : PySem.W.isFn K (.ref f) = true
def rOpO (K : PySem.W.Frag) (C : Addr) (op : Operator) (sp : Sp) (E : XK) : R2 := fun x y H Q => ∃ a dx fs t, x = .ref a ∧ H a = some (.ins C dx fs) ∧ TyX K H y t ∧ RtOk K C op t ∧ sp [x, y] H Q E
theorem op_ownO {op : Operator} (T : OpC X.K C f op) (F : FnOk X.prog X.w X.K X.mg X.base CX k f fd ps sp) (hr : Room k X.A) (hb : Binds X.K fd ps []) (hx : Passes CX X E) : OpR X (binaryOp op) (rOpO X.K C op sp E) := by
  intro pins s σ H x y v u Q iv rx ry kq
  obtain ⟨a, dx, fs, t, rfl, ha, ty, rt, q⟩ := kq
  cases rx
  obtain ⟨mo, jv, _⟩ := ins_get iv.hok ha
  obtain ⟨od, jv, _⟩ := jv.look
  obtain ⟨m, hF⟩ := iv.fr
  have L := ty_looks iv ry ty
  have go : wpAny (model X.prog X.w) X.A (call (.ref f) [.ref a, u]) (PySem.W.CmpBack (EP X pins σ Q)) X.xe s :=
    wpAny_mono (run_in F hr rfl hb hx iv (.cons (rr a) (.cons ry .nil)) q) (fun z s' h => by
      obtain ⟨z', H', I', rz, qz⟩ := h
      exact SlX.cmpback rz ⟨z', H', I', rz, qz⟩) fun _ _ z => z
  cases rt with
  | same => exact PySem.W.binop_K hF iv.ok.mod.kin jv L T.self T.bop T.fn go
  | ty h1 h2 hs => exact AWR.binop_ty iv.kIn jv L T.self T.bop T.rop T.fn h1 h2 hs go
end
end AW

set_option linter.all false
set_option maxRecDepth 100000
set_option maxHeartbeats 4000000
namespace AW
open PySem PySem.Spec PyProof.Rows L2
abbrev Clause := Value × Nat × (Addr → Value → Option Addr → TS)
section
variable {X : Cx} {body : List Stmt} {h₀ : ExceptHandler} {hds : List ExceptHandler} {l : List Clause} {pos : Pos} {tb : WX → TS} {Wout : WX}
end
end AW

set_option linter.all false
set_option maxRecDepth 100000
set_option maxHeartbeats 4000000
namespace AW
open PySem PySem.Spec PyProof.Rows L2 LamX
section
variable {X : Cx} {pins : List (Addr × Obj)} {σ : L2.St} {H HZ : Hp} {s s1 : Shared}
end
end AW

set_option linter.all false
set_option maxRecDepth 100000
set_option maxHeartbeats 4000000
namespace AW
open PySem PySem.Spec PyProof.Rows L2 LamX
section
variable {X : Cx}
end
end AW

set_option linter.all false
set_option maxRecDepth 100000
set_option maxHeartbeats 4000000
namespace AW
open PySem PySem.Spec PyProof.Rows L2 LamX
section
variable {X : Cx}
end
end AW

set_option linter.all false
set_option maxRecDepth 100000
set_option maxHeartbeats 4000000
namespace AW
open PySem PySem.Spec PyProof.Rows L2
end AW

set_option linter.all false
set_option maxRecDepth 100000
set_option maxHeartbeats 4000000
namespace AW
open PySem PySem.Spec PyProof.Rows L2
section
variable {M : Model} {A : Around} {E : Value → Shared → Prop} {s : Shared} {pos : Pos} {x C : Addr} {Q : Value → Shared → Prop}
end
end AW

set_option linter.all false
set_option maxRecDepth 100000
set_option maxHeartbeats 4000000
namespace AW
open PySem PySem.Spec PyProof.Rows L2
section
variable {X : Cx}
end
end AW

set_option linter.all false
set_option maxRecDepth 100000
set_option maxHeartbeats 1000000
namespace RM
open PySem PySem.Spec PyProof.Rows L2 PySem.W
section
variable {X : Cx}
end
end RM

set_option linter.all false
set_option maxRecDepth 100000
set_option maxHeartbeats 4000000
namespace RN
open PySem PySem.SeqAt GQ
open AutoSeq1 (wpAny_loadPart')
open MeetsSeq MeetsSeq2 MeetsSeq3 SeqRoads2
section
variable {prog : Program} {w : World} {A : Around} {R : Result → Shared → Prop}
end
section
variable {prog : Program} {w : World} {A : Around} {E : Value → Shared → Prop} {s : Shared}
end
end RN
namespace AW
open PySem PySem.Spec PyProof.Rows L2
section
variable {X : Cx} {n : Nat} {D : Eqv}
end
end AW

set_option linter.all false
set_option maxRecDepth 100000
set_option maxHeartbeats 4000000
namespace AW
open PySem PySem.Spec PyProof.Rows L2
section
variable {X : Cx}
def iOr (t u : TI) : TI := fun σ H R => t σ H R ∨ u σ H R
theorem pi_or {tg l : Expr} {t u : TI} (h1 : PI X tg l t) (h2 : PI X tg l u) : PI X tg l (iOr t u) := ⟨fun pins s σ H R I h => h.elim (h1.run pins s σ H R I) (h2.run pins s σ H R I)⟩
end
end AW

set_option linter.all false
set_option maxRecDepth 100000
set_option maxHeartbeats 4000000
namespace RN
open PySem PySem.SeqAt GQ
open AutoSeq1 (wpAny_loadPart')
open MeetsSeq MeetsSeq2 MeetsSeq3 SeqRoads2
section
variable {prog : Program} {w : World} {A : Around} {R : Result → Shared → Prop}
end
section
variable {prog : Program} {w : World} {A : Around} {E : Value → Shared → Prop} {s : Shared}
end
end RN
namespace AW
open PySem PySem.Spec PyProof.Rows L2
section
variable {X : Cx}
/-- x not in a list of data -/
def rNinL (K : PySem.W.Frag) : R2 := fun x y H Q => ∃ d ds, Dp K H x d ∧ Dp K H y (.list ds) ∧ SeqAt.shaped d = true ∧ SeqAt.shaped (.list ds) = true ∧ Q (.bl (!ds.any fun z => PyData.eqv z d)) H
theorem op_ninL (hu : X.A.units + 65 < cLine) : OpR X (compareOp .NotIn) (rNinL X.K) := by
  intro pins s σ H x y v u Q I rx ry h
  obtain ⟨d, ds, hd, he, sd, se, q⟩ := h
  obtain ⟨as, r1⟩ := Dp.reads I d x v hd rx
  obtain ⟨bs, r2⟩ := Dp.reads I (.list ds) y u he ry
  exact SeqAt.notIn_list_reads r2 r1 (SeqAt.canLay_of_shaped (d := .list ds) se) (SeqAt.canLay_of_shaped sd) (room_in_shaped sd hu) ⟨.bl _, H, I, rfl, q⟩
end
end AW

set_option linter.all false
set_option maxRecDepth 100000
set_option maxHeartbeats 4000000
namespace AW
open PySem PySem.Spec PyProof.Rows L2
section
variable {X : Cx}
end
section
variable {X : Cx}
end
end AW

set_option linter.all false
set_option maxRecDepth 100000
set_option maxHeartbeats 4000000
namespace AW
open PySem PySem.Spec PyProof.Rows L2
abbrev I3 := Int × Int × Int
abbrev l3 (p : I3) : List Int := [p.1, p.2.1, p.2.2]
def IsTrip (h : Heap) (v : Value) (p : I3) : Prop := ∃ a o t u w n, v = .ref a ∧ h.get? a = some o ∧ o.cls = .type "tuple" ∧ o.data = .seq #[.int p.1 t, .int p.2.1 u, .int p.2.2 w] n
theorem IsTrip.keeps {h h' : Heap} {v : Value} {x : I3} (p : IsTrip h v x) (k : ∀ b o, h.get? b = some o → o.cls = .type "tuple" → h'.get? b = some o) : IsTrip h' v x := by
  obtain ⟨a, o, t, u, w, n, e, ho, hc, hd⟩ := p
  exact ⟨a, o, t, u, w, n, e, k _ _ ho hc, hc, hd⟩
section
variable {prog : Program} {w : World} {A : Around} {s : Shared}
end
section
variable {X : Cx}
end
end AW

set_option linter.all false
set_option maxRecDepth 100000
set_option maxHeartbeats 4000000
namespace AW
open PySem PySem.Spec PyProof.Rows L2
section
variable {X : Cx} {CX : CXT} {k : Nat} {f C : Addr} {fd : FuncData} {ps : List Str} {ds : List Value} {dvs : List V} {sp : Sp} {E : XK} {x : Str} {e : Expr} {te : TE} {p q pos : Pos}
end
/-- the tuple at a, each item in a new pair with its number -/
def IteT (K : PySem.W.Frag) (a : Addr) : It where
  go := fun n H => ∃ (us : List V) (u : V), SqT K H a us ∧ us[n]? = some u
  yld := fun n H v H' => ∃ b u, v = .ref b ∧ H b = none ∧ H' = upd H b (.tup [.int (n : Nat), u]) ∧ ∀ us, SqT K H a us → us[n]? = some u
  stop := fun n H => ∃ us : List V, SqT K H a us ∧ us.length ≤ n
theorem apart_tup {h : Heap} {a b : Addr} {its : Array Value} {o : Obj} (p : h.IsTuple a its) (hb : h.get? b = some o) (hc : o.cls ≠ .type "tuple") : b ≠ a := fun z => by
  subst z
  obtain ⟨o', ho', hc', _⟩ := p
  rw [hb] at ho'
  cases ho'
  exact hc hc'
theorem turn_enumT {P : Program} {w : World} {K : PySem.W.Frag} {elts : List Expr} {kk : Nat} {tpos : Pos} (a en it : Addr) :
    Turn P w K (.Tuple elts kk tpos) (IteT K a) [en, it] en (fun n h => (∃ old, IsEnum h en it ((n : Nat) : Int) old) ∧ h.IsTupleIter it a n ∧ en ≠ it) where
  mem := List.mem_cons_self ..
  obj := by
    rintro n h ⟨⟨old, he⟩, ⟨o, ho, _, hd⟩, _⟩ b hb
    rcases (by simpa using hb : b = en ∨ b = it) with z | z
    · subst z; exact ⟨_, he, fun v y => nomatch y⟩
    · subst z; exact ⟨o, ho, fun v y => by rw [hd] at y; cases y⟩
  keep := by
    rintro n h h' ⟨⟨old, he⟩, hi, ne⟩ kp
    exact ⟨⟨old, kp en (by simp) _ he⟩, hi.at fun o y => kp it (by simp) o y, ne⟩
  item := by
    intro X hP hw hK hc n pins s σ H E I hf st hg
    subst hP hw hK
    obtain ⟨⟨old, he⟩, hit, ne⟩ := st
    obtain ⟨us, u, hq, hu⟩ := hg
    obtain ⟨its, rv, pt, _⟩ := I.tuple hq
    have pt : s.heap.IsTuple a its.toArray := pt
    obtain ⟨v, hv, rvu⟩ := rv.get hu
    have lt1 : en < s.heap.objs.size := Heap.lt_size he
    have n2 : it ≠ a := by
      obtain ⟨o, ho, hcl, _⟩ := id hit
      exact apart_tup pt ho (by rw [hcl]; exact fun z => absurd (Value.type.inj z) (by decide))
    have n3 : en ≠ a := apart_tup pt he (fun z => absurd (Value.type.inj z) (by decide))
    have lt2 : it < s.heap.objs.size := by
      obtain ⟨_, y, _⟩ := hit
      exact Heap.lt_size y
    have hh : X.A.in1.handled = none := I.ok.hd hc
    have hn : n < its.toArray.size := by
      have := (List.getElem?_eq_some_iff.mp hv).1
      simpa using this
    refine wpAny_pyNext_enum_itemD (Draws.tuple hh it a n2.symm its.toArray) he ⟨hit, pt⟩ hn ne (by simp [ne, n3]) fun v' h' tk hv' out hst hT hsz old' => ?_
    obtain rfl : v' = v := by
      have h1 : its[n]? = some v' := by simpa using hv'
      rw [hv] at h1
      cases h1
      rfl
    refine ⟨_, rfl, wpAny_letOwnedTupleGo_enum (s := { s with heap := h', toks := tk + 1 }) out fun h2 en2 same => ?_⟩
    have T2 : h2.get? s.heap.objs.size = some { cls := .type "tuple", data := .seq #[.int n tk, v'] } := (same.2 _ (Nat.ne_of_gt lt1)).trans hT
    have fresh : ObjOk X.prog X.w (upd H s.heap.objs.size (.tup [.int (n : Nat), u])) h2 s.heap.objs.size (.tup [.int (n : Nat), u]) :=
      ⟨show 2 ≤ sizeLine from by decide, [.int n tk, v'], .cons ⟨_, rfl⟩ (.cons rvu .nil), ⟨_, T2, rfl, _, rfl⟩⟩
    have I1 : Inv X pins σ (upd H s.heap.objs.size (.tup [.int (n : Nat), u])) { s with heap := h2, toks := tk + 1 } :=
      I.turnedNew (ch := [en, it]) (fun b ob hb y => (same.2 b (fun z => hb (by simp [z]))).trans (old' b ob (fun z => hb (by simp [z])) (fun z => hb (by simp [z])) y)) hf (Nat.le_refl _) fresh
    refine ⟨.ref s.heap.objs.size, _, I1, rfl, ⟨_, u, rfl, I.hok.fresh (Nat.le_refl _), rfl, fun ys hy => by rw [I.tuple_inj hy hq]; exact hu⟩, ⟨⟨v', ?_⟩, hst.1.at fun o y => (same.2 it (Ne.symm ne)).trans y, ne⟩, fun b hb => ?_⟩
    · rw [show ((n + 1 : Nat) : Int) = (n : Int) + 1 by omega]
      exact en2
    · have lb : b < s.heap.objs.size := by
        rcases (by simpa using hb : b = en ∨ b = it) with z | z <;> rw [z] <;> assumption
      rw [upd_ne (Nat.ne_of_lt lb)]
      exact (hf b hb).1
  done := by
    intro X hP hw hK hc n pins s σ H E I hf st hg
    subst hP hw hK
    obtain ⟨⟨old, he⟩, hit, ne⟩ := st
    obtain ⟨us, hq, hu⟩ := hg
    obtain ⟨its, rv, pt, _⟩ := I.tuple hq
    have pt : s.heap.IsTuple a its.toArray := pt
    obtain ⟨f0, f1, f2, f3, f4, f5⟩ := hf it (by simp)
    have ll := rv.length
    have hh : X.A.in1.handled = none := I.ok.hd hc
    have D0 : Draws X.prog X.w X.A.in1 it [it, a] 0 (fun _ _ => False) (fun j h => h.IsTupleIter it a (n + j) ∧ h.IsTuple a its.toArray) := {
      live := fun _ _ z => by
        obtain ⟨⟨o, ho, _⟩, _⟩ := z
        exact ⟨o, ho⟩
      frame := fun _ _ _ z kp => ⟨z.1.at fun o y => kp it (by simp) o y, z.2.at fun o y => kp a (by simp) o y⟩
      item := fun j s Q E hj => absurd hj (Nat.not_lt_zero j)
      done := fun s Q E z hE => wpAny_nextOf_tuple_end hh z.1 z.2 (by simp; omega) hE }
    exact wpAny_pyNext_enum_endD D0 he ⟨hit, pt⟩ fun h' eb => ⟨rfl, I.turned (t' := s.toks) (fun b o hb y => eb b o hb y) f0 f1 f3 f4 f5⟩
  self := fun A n s Q E st h => by
    obtain ⟨⟨_, he⟩, _⟩ := st
    exact wpAny_pyIter_enum he h
theorem vals1' {v : V} {ws : List Value} (h : Vals [v] ws) : ∃ w, ws = [w] ∧ RelV v w := by
  cases h with
  | cons r rr => cases rr; exact ⟨_, rfl, r⟩
open PySem in
set_option maxHeartbeats 1000000 in
theorem meets_enum1 {v : Value} {o : Obj} {J : Heap → Prop} (b : Begins v o J) :
    Meets (Builtin.«enumerate.__new__» ⟨[.type "enumerate", v], []⟩) (fun _ R s => J s.heap ∧
      R (.ok (.ret (.ref (s.heap.push o).objs.size))) { s with heap := (s.heap.push o).push { cls := .type "enumerate", data := .fields #[.none, .bool false, .ref s.heap.objs.size, rawInt 0, .none, .none] } }) :=
  .of_wp fun prog w A R s h => by
    obtain ⟨h0, g0, d0, t0, o0⟩ := s
    obtain ⟨hj, hR⟩ := h
    have below := sub_enumerate
    have iter : ∀ {A1 : Around} {E Q : Value → Shared → Prop}, Q (.ref h0.objs.size) ⟨h0.push o, g0, d0, t0, o0⟩ → wpAny (model prog w) A1 (pyIter v) Q E ⟨h0, g0, d0, t0, o0⟩ :=
      fun z => b.iter prog w _ _ ⟨h0, g0, d0, t0, o0⟩ _ hj z
    wp_walk using iter
    refine wpAny_stack_any fun st => wpAny_pure ?_
    split
    · rename_i c _ _ _ _ _
      cases (c == Value.type "enumerate")
      · wp_walk using iter
        exact ⟨_, rfl, hR⟩
      · wp_walk using iter
        exact ⟨_, rfl, hR⟩
    · wp_walk using iter
      exact ⟨_, rfl, hR⟩
theorem enum1_begins {prog : Program} {w : World} {A : Around} {E : Value → Shared → Prop} {s : Shared} {v : Value} {o : Obj} {J : Heap → Prop} {Q : Value → Shared → Prop} (b : Begins v o J) (hj : J s.heap)
    (h : ∀ h', IsEnum h' (s.heap.objs.size + 1) s.heap.objs.size 0 .none → h'.get? s.heap.objs.size = some o → h'.objs.size = s.heap.objs.size + 2 →
      (∀ c ob, s.heap.get? c = some ob → h'.get? c = some ob) → Q (.ref (s.heap.objs.size + 1)) { s with heap := h' }) :
    wpAny (model prog w) A (call (.type "enumerate") [v]) Q E s := by
  refine callType_new F.called_enumerate (by decide) (F.typeCall_enumerate_1 _) (F.newCall_enumerate_1 _) (fun obj => F.args_object_init_2 obj _) F.entry_enumerate_new (meets_enum1 b) ⟨hj, ?_⟩
  have hz : (s.heap.push o).objs.size = s.heap.objs.size + 1 := Heap.size_push ..
  show _ ∧ _
  rw [hz]
  have at1 : IsEnum ((s.heap.push o).push { cls := .type "enumerate", data := .fields #[.none, .bool false, .ref s.heap.objs.size, rawInt 0, .none, .none] }) (s.heap.objs.size + 1) s.heap.objs.size 0 .none := by
    have z := Heap.get?_push_size (s.heap.push o) (o := { cls := .type "enumerate", data := .fields #[.none, .bool false, .ref s.heap.objs.size, rawInt 0, .none, .none] }) rfl
    rw [hz] at z
    exact z
  refine ⟨⟨_, at1, rfl⟩, h _ at1 (Heap.get?_push_of_some _ (Heap.get?_push_size _ b.free)) (by rw [Heap.size_push, hz]) fun c ob y => Heap.get?_push_of_some _ (Heap.get?_push_of_some _ y)⟩
def iEnumT (K : PySem.W.Frag) (ta : TA) : TI := fun σ H R => ta σ H fun vs H1 => ∃ a us, vs = [.ref a] ∧ SqT K H1 a us ∧ R (IteT K a) H1
theorem pi_enumT {X : Cx} {e : Expr} {ta : TA} {p pos tpos : Pos} {elts : List Expr} {kk : Nat} (gl : Gl X "enumerate") (mg : X.mg "enumerate" = none) (arg : PA X [e] ta) (one : starEach [e] X.env = [(false, eval e X.env)] := by rfl) :
    PI X (.Tuple elts kk tpos) (.Call (.Name "enumerate" p) [e] [] pos) (iEnumT X.K ta) := by
  refine ⟨fun pins s σ H R I h => ?_⟩
  refine Call_ (ld_blt I gl mg boot_enumerate (PyProof.Rows.callWith_type1 (thn (arg.run pos pins s σ H _ I h) fun ws s1 ⟨vs, H1, I1, r1, a, us, ev, hq, go⟩ => ?_) one rfl))
  subst ev
  obtain ⟨v, rfl, rv⟩ := vals1' r1
  obtain rfl : v = Value.ref a := rv
  obtain ⟨its, _, pt, _⟩ := I1.tuple hq
  have pt : s1.heap.IsTuple a its.toArray := pt
  refine enum1_begins (begins_tuple a its.toArray) pt fun h' he hit hsz kp => wpAny_pyIter_enum he ?_
  have I2 : Inv X pins σ H1 { s1 with heap := h' } := I1.kept (t' := s1.toks) kp
  refine ⟨s1.heap.objs.size + 1, [s1.heap.objs.size + 1, s1.heap.objs.size], _, _, H1, rfl, I2, turn_enumT a (s1.heap.objs.size + 1) s1.heap.objs.size, ⟨⟨.none, he⟩, ⟨_, hit, rfl, rfl⟩, Nat.succ_ne_self _⟩, fun b hb => ?_, go⟩
  have lb : s1.heap.objs.size ≤ b := by
    rcases (by simpa using hb : b = s1.heap.objs.size + 1 ∨ b = s1.heap.objs.size) with z | z <;> rw [z]
    · exact Nat.le_succ _
    · exact Nat.le_refl _
  exact I1.fpOk lb (I1.hok.fresh lb)
end AW

set_option linter.all false
set_option maxRecDepth 100000
set_option maxHeartbeats 4000000
namespace AW
open PySem PySem.Spec PyProof.Rows L2
section
variable {X : Cx}
end
end AW

set_option linter.all false
set_option maxRecDepth 100000
set_option maxHeartbeats 4000000
namespace AW
open PySem PySem.Spec PyProof.Rows L2
end AW

set_option linter.all false
set_option maxRecDepth 100000
set_option maxHeartbeats 4000000
namespace AW
open PySem PySem.Spec PyProof.Rows L2
section
variable {prog : Program} {w : World} {A : Around} {E : Value → Shared → Prop} {s : Shared}
end
section
variable {X : Cx}
end
end AW

set_option linter.all false
set_option maxRecDepth 100000
set_option maxHeartbeats 4000000
namespace AW
open PySem PySem.Spec PyProof.Rows L2
end AW

set_option linter.all false
set_option maxRecDepth 100000
set_option maxHeartbeats 4000000
namespace AW
open PySem PySem.Spec PyProof.Rows L2
/-- what a turn of zip(tuple, list) gives -/
def ItzM (K : PySem.W.Frag) (a b : Addr) : It where
  go i H := ∃ (us ws : List V) (u v : V), SqT K H a us ∧ SqL K H b ws ∧ us[i]? = some u ∧ ws[i]? = some v
  yld i H r H' := ∃ t u v, r = .ref t ∧ H t = none ∧ H' = upd H t (.tup [u, v]) ∧ (∀ us, SqT K H a us → us[i]? = some u) ∧ ∀ ws, SqL K H b ws → ws[i]? = some v
  stop i H := ∃ us ws : List V, SqT K H a us ∧ SqL K H b ws ∧ i ≤ us.length ∧ i ≤ ws.length ∧ (i = us.length ∨ i = ws.length)
theorem sepM {z ti tO p q a b : Addr} (d : ZipApart z ti tO p q a b) : ZipSep2 z ti tO p q [p, a] [q, b] where
  TIz := d.TIz
  TOz := d.TOz
  TITO := d.TITO
  TIi1 := d.TIi1
  mem1 := List.mem_cons_self ..
  zf1 := by simp only [List.mem_cons, List.not_mem_nil, or_false, not_or]; exact ⟨d.i1z.symm, d.l1z.symm⟩
  Tf1 := by simp only [List.mem_cons, List.not_mem_nil, or_false, not_or]; exact ⟨d.TOi1, d.l1TO.symm⟩
  TIi2 := d.TIi2
  mem2 := List.mem_cons_self ..
  zf2 := by simp only [List.mem_cons, List.not_mem_nil, or_false, not_or]; exact ⟨d.i2z.symm, d.l2z.symm⟩
  Tf2 := by simp only [List.mem_cons, List.not_mem_nil, or_false, not_or]; exact ⟨d.TOi2, d.l2TO.symm⟩
  sep1_2 := by simp only [List.mem_cons, List.not_mem_nil, or_false, not_or]; exact ⟨d.i12, d.l2i1.symm⟩
  sep2_1 := by simp only [List.mem_cons, List.not_mem_nil, or_false, not_or]; exact ⟨d.i12.symm, d.l1i2.symm⟩
/-- the five cells of a zip over a tuple and a list, at its i-th turn -/
def StM (z ti tO p q a b : Addr) (i : Nat) (h : Heap) : Prop := IsZip h z ti tO .none ∧ IsTupOf2 h ti (.ref p) (.ref q) ∧ (∃ x y, IsTupOf2 h tO x y) ∧ h.IsTupleIter p a i ∧ h.IsListIter q b i
theorem five {c z ti tO p q : Addr} (h : c ∈ [z, ti, tO, p, q]) : c = z ∨ c = ti ∨ c = tO ∨ c = p ∨ c = q := by simpa using h
theorem turn_zipM {P : Program} {w : World} {K : PySem.W.Frag} {elts : List Expr} {kk : Nat} {tpos : Pos} {z ti tO p q a b : Addr} (d : ZipApart z ti tO p q a b) :
    Turn P w K (.Tuple elts kk tpos) (ItzM K a b) [z, ti, tO, p, q] z (StM z ti tO p q a b) where
  mem := List.mem_cons_self ..
  obj := fun i h st c hc => by
    obtain ⟨vz, vi, ⟨x, y, vo⟩, ⟨o1, e1, _, d1⟩, ⟨o2, e2, _, d2⟩⟩ := st
    rcases five hc with r | r | r | r | r <;> subst r
    · exact ⟨_, vz, fun v q => nomatch q⟩
    · exact ⟨_, vi, fun v q => nomatch q⟩
    · exact ⟨_, vo, fun v q => nomatch q⟩
    · exact ⟨o1, e1, fun v q => by rw [d1] at q; cases q⟩
    · exact ⟨o2, e2, fun v q => by rw [d2] at q; cases q⟩
  keep := fun i h h' ⟨vz, vi, ⟨x, y, vo⟩, s1, s2⟩ k => ⟨k z (by simp) _ vz, k ti (by simp) _ vi, ⟨x, y, k tO (by simp) _ vo⟩, s1.at fun o r => k p (by simp) o r, s2.at fun o r => k q (by simp) o r⟩
  item := by
    intro X hP hw hK hc i pins s σ H E I hf st hg
    subst hP hw hK
    obtain ⟨vz, vi, ⟨x0, y0, vo⟩, s1, s2⟩ := st
    obtain ⟨us, ws, x, y, sq1, sq2, gx, gy⟩ := hg
    obtain ⟨ia, ra, pa, _⟩ := I.tuple sq1
    obtain ⟨ib, rb, pb, _⟩ := I.list sq2
    obtain ⟨u, gu, ru⟩ := ra.get gx
    obtain ⟨v, gv, rv⟩ := rb.get gy
    have zlt : z < s.heap.objs.size := Heap.lt_size vz
    have ga : ia.toArray[i]? = some u := by simpa using gu
    have gb : ib.toArray[i]? = some v := by simpa using gv
    have la : i < ia.toArray.size := by rcases Nat.lt_or_ge i ia.toArray.size with h | h; exact h; rw [Array.getElem?_eq_none h] at ga; cases ga
    have lb : i < ib.toArray.size := by rcases Nat.lt_or_ge i ib.toArray.size with h | h; exact h; rw [Array.getElem?_eq_none h] at gb; cases gb
    refine wpAny_pyNext_zipD2_item (sepM d) (Draws.tuple (prog := X.prog) (w := X.w) (A := X.A.in1) (I.ok.hd hc) p a d.l1i1 ia.toArray) (Draws.list (prog := X.prog) (w := X.w) (A := X.A.in1) (I.ok.hd hc) q b d.l2i2 ib.toArray) vz vi vo ⟨s1, pa⟩ ⟨s2, pb.isList⟩ la lb fun x1 x2 h' tk y1 y2 nz nO n1 n2 nT nsz kp => ?_
    rw [ga] at y1
    rw [gb] at y2
    cases y1
    cases y2
    refine ⟨_, rfl, wpAny_letOwnedTupleGo_zip (s := { s with heap := h', toks := tk }) nz fun h2 nz2 sb => ?_⟩
    have nT2 := (sb.2 _ (Nat.ne_of_gt zlt)).trans nT
    have out : ∀ c o, c ∉ [z, ti, tO, p, q] → s.heap.get? c = some o → h2.get? c = some o := fun c o hb e => by
      simp only [List.mem_cons, List.not_mem_nil, or_false, not_or] at hb
      exact (sb.2 c hb.1).trans (kp c o hb.1 hb.2.2.1 hb.2.2.2.1 hb.2.2.2.2 e)
    have I1 : Inv X pins σ (upd H s.heap.objs.size (.tup [x, y])) { s with heap := h2, toks := tk } :=
      I.turnedNew (ch := [z, ti, tO, p, q]) out hf (Nat.le_refl _) ⟨by show 2 ≤ sizeLine; decide, [u, v], .cons ru (.cons rv .nil), ⟨_, nT2, rfl, _, rfl⟩⟩
    have vi2 : IsTupOf2 h2 ti (.ref p) (.ref q) := (sb.2 _ d.TIz).trans (kp _ _ d.TIz d.TITO d.TIi1 d.TIi2 vi)
    refine ⟨.ref s.heap.objs.size, _, I1, rfl, ⟨_, x, y, rfl, I.hok.fresh (Nat.le_refl _), rfl, fun l hl => by rw [I.tuple_inj hl sq1]; exact gx, fun l hl => by rw [I.list_inj hl sq2]; exact gy⟩, ⟨nz2, vi2, ⟨u, v, (sb.2 _ d.TOz).trans nO⟩, n1.1.at fun o r => (sb.2 _ d.i1z).trans r, n2.1.at fun o r => (sb.2 _ d.i2z).trans r⟩, fun c hcm => ?_⟩
    have clt : c < s.heap.objs.size := by
      rcases five hcm with r | r | r | r | r <;> subst r
      · exact zlt
      · exact Heap.lt_size vi
      · exact Heap.lt_size vo
      · obtain ⟨_, e1, _⟩ := s1; exact Heap.lt_size e1
      · obtain ⟨_, e2, _⟩ := s2; exact Heap.lt_size e2
    rw [upd_ne (Nat.ne_of_lt clt)]
    exact (hf c hcm).1
  done := by
    intro X hP hw hK hc i pins s σ H E I hf st hg
    subst hP hw hK
    obtain ⟨vz, vi, ⟨x0, y0, vo⟩, s1, s2⟩ := st
    obtain ⟨us, ws, sq1, sq2, le1, le2, hend⟩ := hg
    obtain ⟨ia, ra, pa, _⟩ := I.tuple sq1
    obtain ⟨ib, rb, pb, _⟩ := I.list sq2
    have na := ra.length
    have nb := rb.length
    refine wpAny_pyNext_zipD2_end (sepM d) (Draws.tuple (prog := X.prog) (w := X.w) (A := X.A.in1) (I.ok.hd hc) p a d.l1i1 ia.toArray) (Draws.list (prog := X.prog) (w := X.w) (A := X.A.in1) (I.ok.hd hc) q b d.l2i2 ib.toArray) vz vi vo ⟨s1, pa⟩ ⟨s2, pb.isList⟩ (by simp; omega) (by simp; omega) (by simp; omega) fun h' tk kp => ⟨rfl, I.turnedL (ch := [z, ti, tO, p, q]) (fun c o hb e => ?_) hf⟩
    simp only [List.mem_cons, List.not_mem_nil, or_false, not_or] at hb
    exact kp c o hb.1 hb.2.2.1 hb.2.2.2.1 hb.2.2.2.2 e
  self := fun A i s Q E st h => wpAny_pyIter_zip st.1 h
abbrev zpM1 (h : Heap) (a : Addr) : Heap := h.push { cls := .type "tuple_iterator", data := .fields #[.ref a, .int 0 0] }
abbrev zpM2 (h : Heap) (a b : Addr) : Heap := (zpM1 h a).push { cls := .type "list_iterator", data := .fields #[.ref b, .int 0 0] }
abbrev zpM3 (h : Heap) (a b : Addr) : Heap := (zpM2 h a b).push { cls := .type "tuple", data := .seq #[.ref h.objs.size, .ref (zpM1 h a).objs.size] }
abbrev zpM4 (h : Heap) (a b : Addr) : Heap := (zpM3 h a b).push { cls := .type "tuple", data := .seq #[.none, .none] }
abbrev zpM5 (h : Heap) (a b : Addr) : Heap := (zpM4 h a b).push { cls := .type "zip", data := .fields #[.none, .bool false, .bool false, .ref (zpM2 h a b).objs.size, .ref (zpM3 h a b).objs.size] }
theorem meets_zpM (a b : Addr) (us ws : Array Value) :
    Meets (Builtin.«zip.__new__» ⟨[.type "zip", .ref a, .ref b], []⟩) (fun _ R s => s.heap.IsTuple a us ∧ s.heap.IsList b ws ∧ R (.ok (.ret (.ref (zpM4 s.heap a b).objs.size))) { s with heap := zpM5 s.heap a b }) := .of_wp fun prog w A R s h => by
  obtain ⟨hp, g, d, tk, os⟩ := s
  obtain ⟨ha, hb, h⟩ := h
  have hsub := sub_zip
  have ha1 : Heap.IsTuple (Shared.heap ⟨hp, g, d, tk, os⟩) a us := ha
  have hb1 : Heap.IsList (Shared.heap ⟨hp.push { cls := .type "tuple_iterator", data := .fields #[.ref a, .int 0 0] }, g, d, tk, os⟩) b ws := Heap.IsList.push hb _
  wp_walk using wpAny_pyIter_tuple ha1, wpAny_pyIter_list hb1
  exact ⟨_, rfl, h⟩
theorem call_zpM {prog : Program} {w : World} {A : Around} {E : Value → Shared → Prop} {s : Shared} {a b : Addr} {us ws : Array Value} {Q : Value → Shared → Prop} (ha : s.heap.IsTuple a us) (hb : s.heap.IsList b ws)
    (h : ∀ h', StM (s.heap.objs.size + 4) (s.heap.objs.size + 2) (s.heap.objs.size + 3) s.heap.objs.size (s.heap.objs.size + 1) a b 0 h' → (∀ c o, s.heap.get? c = some o → h'.get? c = some o) → Q (.ref (s.heap.objs.size + 4)) { s with heap := h' }) :
    wpAny (model prog w) A (call (.type "zip") [.ref a, .ref b]) Q E s := by
  refine callType_new F.called_zip (by decide) (F.typeCall_zip_2 _ _) (F.newCall_zip_2 _ _) (fun obj => F.args_object_init_3 obj _ _) F.entry_zip_new (meets_zpM a b us ws) ⟨ha, hb, ?_⟩
  have e1 : (zpM1 s.heap a).objs.size = s.heap.objs.size + 1 := Heap.size_push ..
  have e2 : (zpM2 s.heap a b).objs.size = s.heap.objs.size + 2 := by rw [Heap.size_push, e1]
  have e3 : (zpM3 s.heap a b).objs.size = s.heap.objs.size + 3 := by rw [Heap.size_push, e2]
  have e4 : (zpM4 s.heap a b).objs.size = s.heap.objs.size + 4 := by rw [Heap.size_push, e3]
  have up : ∀ {x : Heap} {c o ob}, x.get? c = some o → (x.push ob).get? c = some o := fun y => Heap.get?_push_of_some _ y
  have f5 : (zpM5 s.heap a b).get? (zpM4 s.heap a b).objs.size = some _ := Heap.get?_push_size _ rfl
  have f4 : (zpM5 s.heap a b).get? (zpM3 s.heap a b).objs.size = some _ := up (Heap.get?_push_size _ rfl)
  have f3 : (zpM5 s.heap a b).get? (zpM2 s.heap a b).objs.size = some _ := up (up (Heap.get?_push_size _ rfl))
  have f2 : (zpM5 s.heap a b).get? (zpM1 s.heap a).objs.size = some _ := up (up (up (Heap.get?_push_size _ rfl)))
  have f1 : (zpM5 s.heap a b).get? s.heap.objs.size = some _ := up (up (up (up (Heap.get?_push_size _ rfl))))
  rw [e2, e3, e4] at f5
  rw [e1, e2] at f3
  rw [e3] at f4
  rw [e1] at f2
  show _ ∧ _
  rw [e4]
  exact ⟨⟨_, f5, rfl⟩, h _ ⟨f5, f3, ⟨_, _, f4⟩, ⟨_, f1, rfl, rfl⟩, ⟨_, f2, rfl, rfl⟩⟩ fun c o y => up (up (up (up (up y))))⟩
def iZipM (K : PySem.W.Frag) (ta : TA) : TI := fun σ H R => ta σ H fun vs H1 => ∃ a b us ws, vs = [.ref a, .ref b] ∧ SqL K H1 b ws ∧ ((SqT K H1 a us ∧ R (ItzM K a b) H1) ∨ (SqL K H1 a us ∧ R (Itz K a b) H1))
theorem pi_zipM {X : Cx} {e e2 : Expr} {ta : TA} {p pos tpos : Pos} {elts : List Expr} {kk : Nat} (hg : Gl X "zip") (hm : X.mg "zip" = none) (ha : PA X [e, e2] ta)
    (hs : starEach [e, e2] X.env = (false, eval e X.env) :: starEach [e2] X.env := by rfl) (hpl : (backTo pos (starEach [e2] X.env)).any (·.1) = false := by rfl) : PI X (.Tuple elts kk tpos) (.Call (.Name "zip" p) [e, e2] [] pos) (iZipM X.K ta) := by
  refine ⟨fun pins s σ H R I h => Call_ (ld_blt I hg hm PyProof.Rows.boot_zip (PyProof.Rows.callWith_type1 (thn (ha.run pos pins s σ H _ I h) fun us s1 ⟨vs, H1, I1, r1, q1⟩ => ?_) hs hpl))⟩
  obtain ⟨a, b, xs, ys, ex, sq2, q⟩ := q1
  subst ex
  cases r1 with | cons ra r2 => ?_
  cases r2 with | cons rb r3 => ?_
  cases r3
  cases ra
  cases rb
  have hi : ∀ c, c ∈ [s1.heap.objs.size + 4, s1.heap.objs.size + 2, s1.heap.objs.size + 3, s1.heap.objs.size, s1.heap.objs.size + 1] → FpOk X pins H1 c := fun c hcm => by
    have hle : s1.heap.objs.size ≤ c := by rcases five hcm with r | r | r | r | r <;> rw [r] <;> first | exact Nat.le_add_right _ _ | exact Nat.le_refl _
    exact I1.fpOk hle (I1.hok.fresh hle)
  obtain ⟨ib, rvb, pb, _⟩ := I1.list sq2
  rcases q with ⟨sq1, q⟩ | ⟨sq1, q⟩
  · obtain ⟨ia, rva, pa, _⟩ := I1.tuple sq1
    obtain ⟨oa, hoa, _⟩ := id pa
    refine call_zpM (show s1.heap.IsTuple a ia.toArray from pa) pb.isList fun h' st hk => wpAny_pyIter_zip st.1 ?_
    have I2 : Inv X pins σ H1 { s1 with heap := h' } := I1.kept (t' := s1.toks) hk
    exact ⟨s1.heap.objs.size + 4, [s1.heap.objs.size + 4, s1.heap.objs.size + 2, s1.heap.objs.size + 3, s1.heap.objs.size, s1.heap.objs.size + 1], _, _, H1, rfl, I2, turn_zipM (PySem.W.ktu_apart s1.heap.objs.size a b (Heap.lt_size hoa) pb.lt), st, hi, q⟩
  · obtain ⟨ia, rva, pa, _⟩ := I1.list sq1
    refine call_zip_2 pa.isList pb.isList fun h' vz vi vo s1' s2' _ hk => wpAny_pyIter_zip vz ?_
    have I2 : Inv X pins σ H1 { s1 with heap := h' } := I1.kept (t' := s1.toks) hk
    exact ⟨s1.heap.objs.size + 4, [s1.heap.objs.size + 4, s1.heap.objs.size + 2, s1.heap.objs.size + 3, s1.heap.objs.size, s1.heap.objs.size + 1], _, _, H1, rfl, I2, turn_zip (PySem.W.ktu_apart s1.heap.objs.size a b pa.lt pb.lt), ⟨vz, vi, ⟨_, _, vo⟩, s1', s2'⟩, hi, q⟩
end AW

set_option linter.all false
set_option maxRecDepth 100000
set_option maxHeartbeats 4000000
namespace RB
open PySem PySem.SeqAt GQ
open AutoSeq1 (wpAny_loadPart')
open MeetsSeq MeetsSeq2 MeetsSeq3 SeqRoads2
section
variable {prog : Program} {w : World} {A : Around} {R : Result → Shared → Prop}
/-- what the items say together -/
def Says (m n : Nat) (c : Nat → Bool) (b : Bool) : Prop := (b = true → m = n ∧ ∀ j, j < m → c j = true) ∧ (b = false → m ≠ n ∨ ∃ j, j < m ∧ j < n ∧ c j = false)
theorem tupEqB (p q : Addr) (as bs : Array Value) (m k : Nat) (d1 d2 : Option Addr) (o1 o2 : Array (Option Value)) (c : Nat → Bool) (J : Shared → Prop)
    (step : ∀ i (l1 : i < as.size) (l2 : i < bs.size) s, J s → wpAny (model prog w) A.in1 (eqBool as[i] bs[i]) (fun b s2 => b = c i ∧ J s2) (fun e s2 => R (.error e) s2) s)
    (stop : ∀ b s, J s → Says as.size bs.size c b → R (.ok (.ret (.bool b))) s) {s : Shared} (hp : s.heap.get? p = some { cls := .type "tuple", dict := d1, data := .seq as m, slots := o1 }) (hq : s.heap.get? q = some { cls := .type "tuple", dict := d2, data := .seq bs k, slots := o2 }) (h : J s) :
    wpAny (model prog w) A.in1 (Builtin.«tuple.__eq__» ⟨[.ref p, .ref q], []⟩) (FinOf prog w A R) (fun e s2 => R (.error e) s2) s := by
  have sub := AutoSeq1.sub_tuple_tuple
  have lz : (as.toList.zip bs.toList).length = min as.size bs.size := by simp
  have start := h
  obtain ⟨g0, g1, g2, g3, g4⟩ := s
  wp_walk using wpAny_loadPart' hp, wpAny_loadPart' hq, wpAny_forIn_list _ (fun rs b s2 => b.1 = none ∧ ∃ i, rs = (as.toList.zip bs.toList).drop i ∧ i ≤ min as.size bs.size ∧ (∀ j, j < i → c j = true) ∧ J s2) _
  case turn =>
    rintro ⟨u, v⟩ rs b s2 ⟨eb, i, er, li, hc, hJ⟩
    have lt : i < (as.toList.zip bs.toList).length := by
      apply Classical.byContradiction
      intro n
      rw [List.drop_of_length_le (Nat.le_of_not_lt n)] at er
      cases er
    have l1 : i < as.size := by omega
    have l2 : i < bs.size := by omega
    rw [List.drop_eq_getElem_cons lt] at er
    injection er with euv erest
    have eu : u = as[i] := by simpa using congrArg Prod.fst euv
    have ev : v = bs[i] := by simpa using congrArg Prod.snd euv
    subst eu ev
    refine wpAny_bind (wpAny_mono (step i l1 l2 s2 hJ) (fun b s3 t => ?_) fun _ _ x => x)
    obtain ⟨rfl, t⟩ := t
    cases ci : c i with
    | true =>
      wp_walk
      refine ⟨rfl, i + 1, erest, by omega, fun j hj => ?_, t⟩
      rcases Nat.lt_or_eq_of_le (Nat.le_of_lt_succ hj) with z | z
      · exact hc j z
      · rw [z]; exact ci
    | false =>
      have done : R (.ok (.ret (.bool false))) s3 := stop false s3 t ⟨(fun z => nomatch z), fun _ => .inr ⟨i, l1, l2, ci⟩⟩
      wp_walk
      exact done
  case fin =>
    rintro ⟨c1, c2⟩ s2 ⟨eb, i, er, li, hc, hJ⟩
    simp only at eb
    subst eb
    have ge : min as.size bs.size ≤ i := by
      apply Classical.byContradiction
      intro n
      have lt : i < (as.toList.zip bs.toList).length := by omega
      rw [List.drop_eq_getElem_cons lt] at er
      cases er
    have done : R (.ok (.ret (.bool (as.size == bs.size)))) s2 := by
      refine stop _ s2 hJ ⟨fun z => ?_, fun z => .inl ?_⟩
      · have z : as.size = bs.size := by simpa using z
        exact ⟨z, fun j hj => hc j (by omega)⟩
      · simpa using z
    wp_walk
    exact done
  case h =>
    exact ⟨rfl, 0, rfl, Nat.zero_le _, (fun j hj => absurd hj (Nat.not_lt_zero j)), start⟩
end
section
variable {prog : Program} {w : World} {A : Around} {E : Value → Shared → Prop} {s : Shared}
theorem rcEqB {p q : Addr} {as bs : Array Value} {Q : Value → Shared → Prop} (hu : A.units < cLine) (c : Nat → Bool) (J : Shared → Prop) (hp : s.heap.IsTuple p as) (hq : s.heap.IsTuple q bs)
    (step : ∀ i (l1 : i < as.size) (l2 : i < bs.size) s, J s → wpAny (model prog w) A.in1 (eqBool as[i] bs[i]) (fun b s2 => b = c i ∧ J s2) E s)
    (stop : ∀ b s, J s → Says as.size bs.size c b → Q (.bool b) s) (h : J s) : wpAny (model prog w) A (richCompare .Eq (.ref p) (.ref q)) Q E s := by
  obtain ⟨⟨c1, d1, t1, o1⟩, e1, k1, n1, z1⟩ := id hp
  obtain ⟨⟨c2, d2, t2, o2⟩, e2, k2, n2, z2⟩ := id hq
  simp only at k1 z1 k2 z2
  subst k1 z1 k2 z2
  refine wpAny_richCompare_same_room (op := .Eq) ⟨_, e1, rfl⟩ ⟨_, e2, rfl⟩ F.slot_tuple_eq (call_here F.slot_tuple_eq ⟨_, e1, rfl⟩ F.entry_tuple_eq (F.args_tuple_eq_2 _ _) ?_) hu
  exact tupEqB (R := wants (fun v s2 => v ≠ .notImplemented ∧ Q v s2) E) p q as bs n1 n2 d1 d2 o1 o2 c J step (fun b s2 t z => ⟨(fun x => nomatch x), stop b s2 t z⟩) e1 e2 h
end
end RB
namespace AW
open PySem PySem.Spec PyProof.Rows L2
/-- how two values answer ==, by the abstract heap -/
abbrev EqvB := V → V → Hp → Bool → Prop
def MonB (D : EqvB) : Prop := ∀ x y H H' b, L2.Ext H H' → D x y H b → D x y H' b
section
variable {X : Cx} {n m : Nat} {D : EqvB}
def EqBo (X : Cx) (n : Nat) (D : EqvB) : Prop := ∀ (A : Around) (pins : List (Addr × Obj)) (s : Shared) (σ : L2.St) (H : Hp) (x y : V) (u v : Value) (b : Bool), L2.Sub X n A → Inv X pins σ H s → RelV x u → RelV y v → D x y H b →
  wpAny (model X.prog X.w) A (eqBool u v) (fun r s2 => r = b ∧ ∃ H', Inv X pins σ H' s2 ∧ L2.Ext H H') X.xe s
def RcBo (X : Cx) (n : Nat) (D : EqvB) : Prop := ∀ (A : Around) (pins : List (Addr × Obj)) (s : Shared) (σ : L2.St) (H : Hp) (x y : V) (u v : Value) (b : Bool), L2.Sub X n A → Inv X pins σ H s → RelV x u → RelV y v → D x y H b →
  wpAny (model X.prog X.w) A (richCompare .Eq u v) (fun r s2 => r = .bool b ∧ ∃ H', Inv X pins σ H' s2 ∧ L2.Ext H H') X.xe s
/-- item by item -/
structure PrsB (D : EqvB) (xs ys : List V) (c : Nat → Bool) (H : Hp) : Prop where
  it : ∀ (i : Nat) x y, xs[i]? = some x → ys[i]? = some y → D x y H (c i)
def TupB (K : PySem.W.Frag) (D : EqvB) : EqvB := fun x y H b => ∃ p q xs ys c, x = .ref p ∧ y = .ref q ∧ SqT K H p xs ∧ SqT K H q ys ∧ PrsB D xs ys c H ∧ ∀ b', RB.Says xs.length ys.length c b' → b' = b
theorem stepB (hD : MonB D) (h : EqBo X n D) {A : Around} (sb : L2.Sub X (n + 1) A) {pins : List (Addr × Obj)} {σ : L2.St} {H : Hp} {xs ys : List V} {us vs : List Value} {c : Nat → Bool} (p : PrsB D xs ys c H) (r1 : Vals xs us) (r2 : Vals ys vs)
    (i : Nat) (l1 : i < us.toArray.size) (l2 : i < vs.toArray.size) (s1 : Shared) (t : LoopI X pins σ H s1) : wpAny (model X.prog X.w) A.in1 (eqBool us.toArray[i] vs.toArray[i]) (fun r s2 => r = c i ∧ LoopI X pins σ H s2) X.xe s1 := by
  obtain ⟨H1, I1, e1⟩ := t
  have lu : i < us.length := by simpa using l1
  have lv : i < vs.length := by simpa using l2
  have g1 : us[i]? = some us.toArray[i] := by rw [List.getElem?_eq_getElem lu]; simp
  have g2 : vs[i]? = some vs.toArray[i] := by rw [List.getElem?_eq_getElem lv]; simp
  have k1 : i < xs.length := by rw [r1.length]; exact lu
  have k2 : i < ys.length := by rw [r2.length]; exact lv
  obtain ⟨u, hu, ru⟩ := r1.get (List.getElem?_eq_getElem k1)
  obtain ⟨v, hv, rv⟩ := r2.get (List.getElem?_eq_getElem k2)
  rw [g1] at hu
  rw [g2] at hv
  rw [Option.some.inj hu, Option.some.inj hv]
  have d := hD _ _ _ _ _ e1 (p.it i _ _ (List.getElem?_eq_getElem k1) (List.getElem?_eq_getElem k2))
  exact wpAny_mono (h A.in1 pins s1 σ H1 _ _ u v _ sb.in1 I1 ru rv d) (fun r s2 ⟨er, H2, I2, e2⟩ => ⟨er, H2, I2, e1.trans e2⟩) fun _ _ x => x
theorem rcB_tup (hD : MonB D) (h : EqBo X n D) : RcBo X (n + 1) (TupB X.K D) := by
  intro A pins s σ H x y u v b sb I rx ry d
  obtain ⟨p, q, xs, ys, c, rfl, rfl, hp, hq, pr, hb⟩ := d
  cases rx
  cases ry
  obtain ⟨us, r1, e1, z1⟩ := I.tuple hp
  obtain ⟨vs, r2, e2, z2⟩ := I.tuple hq
  refine RB.rcEqB sb.room.units0 c (fun s2 => LoopI X pins σ H s2) e1 e2 (fun i l1 l2 s2 t => stepB hD h sb pr r1 r2 i l1 l2 s2 t) (fun b' s2 t z => ?_) ⟨H, I, L2.Ext.rfl'⟩
  have z' : RB.Says xs.length ys.length c b' := by rw [r1.length, r2.length]; simpa using z
  rw [hb b' z']
  exact ⟨rfl, t⟩
/-- instances with the text's own == -/
def InsB (C : Addr) (R : Addr → Addr → Hp → Bool → Prop) : EqvB := fun x y H b => ∃ p q dx dy fs gs, x = .ref p ∧ y = .ref q ∧ H p = some (.ins C dx fs) ∧ H q = some (.ins C dy gs) ∧ R p q H b
theorem monB_ins {C : Addr} {R : Addr → Addr → Hp → Bool → Prop} (hR : ∀ p q H H' b, L2.Ext H H' → R p q H b → R p q H' b) : MonB (InsB C R) := fun x y H H' b e ⟨p, q, dx, dy, fs, gs, hx, hy, h1, h2, r⟩ => ⟨p, q, dx, dy, fs, gs, hx, hy, e _ _ h1, e _ _ h2, hR p q H H' b e r⟩
def spEqB (R : Addr → Addr → Hp → Bool → Prop) : Sp := fun vs H Q _ => ∃ p q b, vs = [.ref p, .ref q] ∧ R p q H b ∧ ∀ H', L2.Ext H H' → Q (.bl b) H'
theorem rcB_ins {CX : CXT} {C f : Addr} {fd : FuncData} {ps : List Str} {R : Addr → Addr → Hp → Bool → Prop} {E : XK} (F : FnOk X.prog X.w X.K X.mg X.base CX n f fd ps (spEqB R)) (hE : EqC X.K C f) (hb : Binds X.K fd ps []) (hx : Passes CX X E) : RcBo X n (InsB C R) := by
  intro A pins s σ H x y u v b sb I rx ry d
  obtain ⟨p, q, dx, dy, fs, gs, rfl, rfl, ha, hb', hr⟩ := d
  cases rx
  cases ry
  obtain ⟨mA, J, _⟩ := ins_get I.hok ha
  obtain ⟨mB, J', _⟩ := ins_get I.hok hb'
  obtain ⟨od, J, _⟩ := J.look
  obtain ⟨od', J', _⟩ := J'.look
  obtain ⟨m, hF⟩ := I.fr
  refine PySem.W.cmp_K (op := .Eq) (tb := .ref C) sb.room.units0 hF I.ok.mod.kin J J'.type (by simp [PySem.W.notFirst]) hE.1 hE.2 ?_
  have hsp : spEqB R [.ref p, .ref q] H (fun v H' => v = .bl b ∧ L2.Ext H H') E := ⟨p, q, b, rfl, hr, fun H' e => ⟨rfl, e⟩⟩
  have e0 : Env0 X.prog X.w X.K X.mg X.base A X.stack s H := by
    have e := I.env0
    exact ⟨by rw [sb.fr]; exact e.frames, e.mod, e.bs, e.bsz, e.funs, e.frf, e.hok, e.bare⟩
  have hl := F.len _ _ _ _ hsp
  have rr : Vals [V.ref p, V.ref q] [Value.ref p, Value.ref q] := .cons rfl (.cons rfl .nil)
  have bnd := hb s [.ref p, .ref q] I.kIn (by simpa using hl)
  refine wpAny_call (codeAny_mono (F.run A X.stack s H ⟨[.ref p, .ref q], []⟩ [.ref p, .ref q] [.ref p, .ref q] _ E sb.room e0 (by simpa using bnd) rr hsp) fun r s' hq => ?_)
  cases r with
  | error e => exact hx pins σ H s e s' I hq
  | ok fl =>
    cases fl with
    | ret w =>
      obtain ⟨z, H', I', rz, ez, ex⟩ := I.after hq
      subst ez
      cases rz
      exact ⟨rfl, H', I', ex⟩
    | next => exact False.elim hq
    | brk => exact False.elim hq
    | cont => exact False.elim hq
theorem RcBo.eqB (h : RcBo X n D) (hr : ∀ x y H b, D x y H b → ∃ p q, x = .ref p ∧ y = .ref q) (hs : ∀ p H b, D (.ref p) (.ref p) H b → b = true) : EqBo X n D := by
  intro A pins s σ H x y u v b sb I rx ry d
  obtain ⟨p, q, rfl, rfl⟩ := hr _ _ _ _ d
  cases rx
  cases ry
  by_cases hpq : p = q
  · subst hpq
    have eb := hs _ _ _ d
    subst eb
    exact SeqAt.EqAt.same (A := A) (s := s) (.ref p) X.prog X.w X.xe _ ⟨rfl, H, I, L2.Ext.rfl'⟩
  · exact GQ.eqBool_refG hpq (wpAny_mono (h A pins s σ H (.ref p) (.ref q) _ _ b sb I rfl rfl d) (fun r s' ⟨er, z⟩ => ⟨b, er, rfl, z⟩) fun _ _ x => x)
/-- x == y as an expression, whatever it answers -/
def rEqB (D : EqvB) : R2 := fun x y H Q => ∃ b, D x y H b ∧ ∀ H', L2.Ext H H' → Q (.bl b) H'
theorem op_eqB (h : RcBo X n D) (hr : Room n X.A) : OpR X (compareOp .Eq) (rEqB D) := by
  intro pins s σ H x y v u Q I rx ry ⟨b, d, q⟩
  show wpAny (model X.prog X.w) X.A (richCompare .Eq v u) (EP X pins σ Q) X.xe s
  refine wpAny_mono (h X.A pins s σ H x y v u b ⟨hr, rfl⟩ I rx ry d) (fun r s' z => ?_) fun _ _ x => x
  obtain ⟨er, H', I', e⟩ := z
  subst er
  exact ⟨.bl b, H', I', rfl, q H' e⟩
end
end AW

set_option linter.all false
set_option maxRecDepth 100000
set_option maxHeartbeats 4000000
namespace AWR
open PySem PySem.W PyProof.Rows Builtin
section
variable {prog : Program} {w : World} {A : Around} {E : Value → Shared → Prop} {s : Shared} {K : Frag} {x C f : Addr} {ox : Obj} {oD : Option Obj} {b tb : Value}
theorem in_K {Q : Bool → Shared → Prop} (X : K.In s.heap) (iv : InstAt s.heap x ox C oD)
    (hs : findIn K (.ref C) "__contains__" = some (some (.ref f))) (hf : isFn K (.ref f) = true)
    (h : wpAny (model prog w) A (call (.ref f) [.ref x, b]) (fun v s' => ∃ r, v = .bool r ∧ Q r s') E s) :
    wpAny (model prog w) A (PySem.contains (.ref x) b) Q E s := by
  unfold PySem.contains
  refine wpAny_holding ?_
  simp only [stdlibNamesSay?]
  refine wpAny_bind (wpAny_bind (iv.type.here ((looks_findIn X hs).here ?_)))
  rw [if_neg (show ¬ ((some (Value.ref f) == some Value.none) = true) from Bool.false_ne_true)]
  have one : ∀ refuse : Sem Value, wpAny (model prog w) A (callSpecialUnlessNone? (.ref x) "__contains__" [b] refuse) (fun r s' => ∃ v, r = some v ∧ ∃ z, v = .bool z ∧ Q z s') E s := by
    intro refuse
    unfold callSpecialUnlessNone?
    refine wpAny_bind (wpAny_bind (iv.type.here ((looks_findIn X hs).here ?_)))
    refine wpAny_holding ?_
    refine wpAny_bind ((bind_fn X _ (beq_iff_eq.mp hf)).here ?_)
    show wpAny (model prog w) A (if (Value.ref f == Value.none) = true then (refuse >>= fun r => pure (some r)) else (call (.ref f) [.ref x, b] >>= fun r => pure (some r))) _ E s
    rw [if_neg (show ¬ ((Value.ref f == Value.none) = true) from Bool.false_ne_true)]
    exact wpAny_bind (wpAny_mono h (fun v s' hv => wpAny_pure ⟨v, rfl, hv⟩) fun _ _ e => e)
  refine wpAny_bind (wpAny_mono (one _) (fun r s' hr => ?_) fun _ _ e => e)
  obtain ⟨v, rfl, z, rfl, hq⟩ := hr
  exact wpAny_truthy_bool hq
end
end AWR
namespace AW
open PySem PySem.Spec PyProof.Rows L2
section
variable {X : Cx} {CX : CXT} {k : Nat} {C f : Addr} {fd : FuncData} {ps : List Str} {sp : Sp} {E : XK}
/-- x in c, not in c, by c's own __contains__ that answers a bool -/
def rInO (C : Addr) (sp : Sp) (E : XK) (g : Bool → Bool) : R2 := fun x y H Q => ∃ a dx fs, y = .ref a ∧ H a = some (.ins C dx fs) ∧ sp [y, x] H (fun z H' => ∃ b, z = .bl b ∧ Q (.bl (g b)) H') E
theorem in_own (hs : PySem.W.findIn X.K (.ref C) "__contains__" = some (some (.ref f))) (hf : PySem.W.isFn X.K (.ref f) = true) (F : FnOk X.prog X.w X.K X.mg X.base CX k f fd ps sp) (hr : Room k X.A) (hb : Binds X.K fd ps []) (hx : Passes CX X E)
    {pins : List (Addr × Obj)} {s : Shared} {σ : L2.St} {H : Hp} {x y : V} {v u : Value} {Q : VK} {g : Bool → Bool} (iv : Inv X pins σ H s) (rx : RelV x v) (ry : RelV y u) (kq : rInO C sp E g x y H Q) :
    wpAny (model X.prog X.w) X.A (PySem.contains u v) (fun b s' => EP X pins σ Q (.bool (g b)) s') X.xe s := by
  obtain ⟨a, dx, fs, rfl, ha, q⟩ := kq
  cases ry
  obtain ⟨mo, jv, _⟩ := ins_get iv.hok ha
  obtain ⟨od, jv, _⟩ := jv.look
  refine AWR.in_K iv.kIn jv hs hf ?_
  refine wpAny_mono (run_in F hr rfl hb hx iv (.cons (rr a) (.cons rx .nil)) q) (fun z s' h => ?_) fun _ _ z => z
  obtain ⟨z', H', I', rz, b, ez, qz⟩ := h
  subst ez
  cases rz
  exact ⟨b, rfl, .bl (g b), H', I', rfl, qz⟩
theorem op_inO (hs : PySem.W.findIn X.K (.ref C) "__contains__" = some (some (.ref f))) (hf : PySem.W.isFn X.K (.ref f) = true) (F : FnOk X.prog X.w X.K X.mg X.base CX k f fd ps sp) (hr : Room k X.A) (hb : Binds X.K fd ps []) (hx : Passes CX X E) : OpR X (compareOp .In) (rInO C sp E id) := by
  intro pins s σ H x y v u Q iv rx ry kq
  show wpAny (model X.prog X.w) X.A (PySem.contains u v >>= fun b => pure (.bool b)) (EP X pins σ Q) X.xe s
  exact wpAny_bind (wpAny_mono (in_own hs hf F hr hb hx iv rx ry kq) (fun b s' h => wpAny_pure h) fun _ _ z => z)
end
end AW

set_option linter.all false
set_option maxRecDepth 100000
set_option maxHeartbeats 4000000
namespace RI
open PySem PySem.SeqAt
section
variable {prog : Program} {w : World} {A : Around} {E : Value → Shared → Prop} {s : Shared} {K : PySem.W.Frag} {x y C : Addr} {ox oy : Obj} {od od' : Option Obj}
end
end RI
namespace AW
open PySem PySem.Spec PyProof.Rows L2
section
variable {X : Cx}
end
end AW

set_option linter.all false
set_option maxRecDepth 100000
set_option maxHeartbeats 1000000
namespace RM
open PySem PySem.Spec PyProof.Rows L2 PySem.W
theorem fold_minI (ns : List Int) : ∀ x : Int, (minOf x ns ∈ x :: ns) ∧ ∀ y ∈ x :: ns, minOf x ns ≤ y := by
  induction ns with
  | nil =>
    intro x
    exact ⟨List.mem_cons_self .., fun y hy => by rw [List.mem_singleton.mp hy]; exact Int.le_refl _⟩
  | cons n ns ih =>
    intro x
    have e : minOf x (n :: ns) = minOf (if DatumOrd.lt n x = true then n else x) ns := rfl
    have el : DatumOrd.lt n x = decide (n < x) := rfl
    rw [e, el]
    by_cases h : n < x
    · rw [if_pos (decide_eq_true h)]
      obtain ⟨h1, h2⟩ := ih n
      refine ⟨List.mem_cons_of_mem _ h1, fun y hy => ?_⟩
      rcases List.mem_cons.mp hy with rfl | hy
      · have := h2 n (List.mem_cons_self ..); omega
      · exact h2 y hy
    · rw [if_neg (by rw [decide_eq_true_eq]; exact h)]
      obtain ⟨h1, h2⟩ := ih x
      refine ⟨?_, fun y hy => ?_⟩
      · rcases List.mem_cons.mp h1 with h1 | h1
        · rw [h1]; exact List.mem_cons_self ..
        · exact List.mem_cons_of_mem _ (List.mem_cons_of_mem _ h1)
      · rcases List.mem_cons.mp hy with rfl | hy
        · exact h2 y (List.mem_cons_self ..)
        · rcases List.mem_cons.mp hy with rfl | hy
          · have := h2 x (List.mem_cons_self ..); omega
          · exact h2 y (List.mem_cons_of_mem _ hy)
def rMinD (K : PySem.W.Frag) : List V → List V → Hp → VK → Prop := fun vs zs H Q => (∃ z, zs = [z]) ∧ rMin K vs H Q
section
variable {X : Cx}
theorem crk_minD (hc : X.calm = true) (hu : X.A.units + 65 < cLine) : CallRK X (.builtin "min") [Str.ofString "default"] (rMinD X.K) := by
  intro pins s σ H vs zs us ws Q I r rz h
  obtain ⟨⟨z, ez⟩, a, ns, rfl, hs, h0, q⟩ := h
  subst ez
  obtain ⟨its, rv, hli, _⟩ := I.list hs
  rw [Vals.ref1 r]
  obtain ⟨w, ew, _⟩ := AW.vals1' rz
  subst ew
  refine min_list_datum_default (d := w) (xs := ns) (I.ok.hd hc) hli.isList (HoldAll.of_ints (by simpa using rv.ints)) (show X.A.units + 1 + 0 < cLine by omega) (fun e => absurd h0 (by rw [e]; decide)) fun y ys i v h' tk e hi hv hk => ?_
  subst e
  obtain ⟨t, rfl⟩ := int_of_holds hv
  obtain ⟨h1, h2⟩ := fold_minI ys y
  exact ⟨.int _, H, I.kept hk, ⟨_, rfl⟩, q _ h1 h2⟩
end
end RM

set_option linter.all false
set_option maxRecDepth 100000
set_option maxHeartbeats 4000000
namespace AW
open PySem PySem.Spec PyProof.Rows L2 LamX
/-- the tables of the lambdas, of a law's text -/
class Tbs where
  T : List (Addr × Str)
inductive D where
  | non | bl (b : Bool) | int (i : Int) | str (x : Str)
  | tup (ds : List D) | lst (ds : List D)
  | ins (C : Addr) (ns : List Str) (ds : List D)
  | pen (k l : Str)
  | scr (ns : List Int)
  | val (v : V)
  | lam (q : Str) (mk : Addr → Addr → HO)
  | at_ (u : V) (d : D)
  | edk
  | dk (ks : List Str) (ds : List D)
  | tb (d : D)
  | kt (ks : List Key)
  | dt (lk : Bool) (ks : List (List Key)) (ds : List D)
def penE (k l : Str) (c : Addr) (s r : Int) : List (Key × V) := [(Sum.inr "cells", .ref c), (Sum.inr k, .int s), (Sum.inr l, .int r)]
def IsPen (o : HO) : Prop := (∃ k l c s r, o = .dK (penE k l c s r)) ∨ ∃ ps, o = .tbl ps
/-- how many cells a pen has: the tape of the tables' laws (keys at, rest) has one at least -/
def PenL (k l : Str) (n : Nat) : Prop := n ≤ 63 ∧ (k = "at" → l = "rest" → 0 < n)
variable [Tbs]
section
variable (K : PySem.W.Frag) (G : Hp) (B : Int)
mutual
def Rep : D → V → Prop
  | .non, v => v = .non
  | .bl b, v => v = .bl b
  | .int i, v => v = .int i
  | .str x, v => v = .str x
  | .tup ds, v => ∃ a vs, v = .ref a ∧ SqT K G a vs ∧ RepL ds vs
  | .lst ds, v => ∃ a vs, v = .ref a ∧ G a = some (.lst vs) ∧ RepL ds vs
  | .ins C ns ds, v => ∃ a dx vs, v = .ref a ∧ G a = some (.ins C dx (ns.zip vs)) ∧ ns.length = vs.length ∧ RepL ds vs
  | .pen k l, v => Tabs Tbs.T G ∧ ∃ (a c : Addr) (ns : List Int) (s r : Int), v = .ref a ∧ G a = some (.dK (penE k l c s r)) ∧ G c = some (.lst (ns.map V.int)) ∧ PenL k l ns.length ∧ 0 ≤ s ∧ s ≤ B
  | .val u, v => v = u
  | .at_ u d, v => v = u ∧ Rep d v
  | .tb d, v => Tabs Tbs.T G ∧ Rep d v
  | .edk, v => ∃ a, v = .ref a ∧ G a = some (.dK [])
  | .dk ks ds, v => ∃ a vs, v = .ref a ∧ G a = some (.dK (mergeK [] ((ks.zip vs).map fun p => ((Sum.inr p.1 : Key), p.2)))) ∧ ¬ IsPen (.dK (mergeK [] ((ks.zip vs).map fun p => ((Sum.inr p.1 : Key), p.2)))) ∧ RepL ds vs
  | .kt ks, v => ∃ a, v = .ref a ∧ G a = some (.tup (ks.map kV))
  | .dt lk ks ds, v => ∃ a vs, v = .ref a ∧ (G a = some (.dT (ks.zip vs)) ∨ lk = true ∧ ∃ o, G a = some (.frz o (.dT (ks.zip vs)))) ∧ ks.length = vs.length ∧ RepL ds vs
  | .lam q mk, v => ∃ f d, v = .ref f ∧ G f = some (mk f d) ∧ G d = some (CodeO d q) ∧ ¬ IsPen (mk f d)
  | .scr ns, v => Tabs Tbs.T G ∧ ∃ a, v = .ref a ∧ SqL K G a ((ns : List Int).map V.int)
def RepL : List D → List V → Prop
  | [], vs => vs = []
  | d :: ds, vs => ∃ v r, vs = v :: r ∧ Rep d v ∧ RepL ds r
end
end
def Sub (G H : Hp) : Prop := ∀ a o, G a = some o → H a = some o
structure Le (G : Hp) (B : Int) (G' : Hp) (B' : Int) : Prop where
  b : B ≤ B'
  keep : ∀ a o, G a = some o → ¬ IsPen o → G' a = some o
  pen : ∀ a k l c s r, G a = some (.dK (penE k l c s r)) → ∃ s' r', G' a = some (.dK (penE k l c s' r')) ∧ (0 ≤ s → s ≤ B → 0 ≤ s' ∧ s' ≤ B')
  tb : Tabs Tbs.T G → Tabs Tbs.T G'
theorem Le.refl (G : Hp) (B : Int) : Le G B G B := ⟨Int.le_refl _, fun _ _ h _ => h, fun _ _ _ _ s r h => ⟨s, r, h, fun a b => ⟨a, b⟩⟩, fun h => h⟩
theorem Le.trans {G G1 G2 : Hp} {B B1 B2 : Int} (a : Le G B G1 B1) (b : Le G1 B1 G2 B2) : Le G B G2 B2 :=
  ⟨Int.le_trans a.b b.b, fun c o h n => b.keep c o (a.keep c o h n) n, fun c k l q s r h => by
    obtain ⟨s1, r1, h1, k1⟩ := a.pen c k l q s r h
    obtain ⟨s2, r2, h2, k2⟩ := b.pen c k l q s1 r1 h1
    exact ⟨s2, r2, h2, fun x y => k2 (k1 x y).1 (k1 x y).2⟩, fun h => b.tb (a.tb h)⟩
theorem Le.of_sub {G H : Hp} {B B' : Int} (s : Sub G H) (b : B ≤ B') : Le G B H B' := ⟨b, fun a o h _ => s a o h, fun a k l c z r h => ⟨z, r, s _ _ h, fun x y => ⟨x, Int.le_trans y b⟩⟩, fun h => h.ext s⟩
theorem nopen_tup {xs : List V} : ¬ IsPen (.tup xs) := fun h => by
  rcases h with ⟨_, _, _, _, _, h⟩ | ⟨_, h⟩ <;> cases h
theorem nopen_lst {xs : List V} : ¬ IsPen (.lst xs) := fun h => by
  rcases h with ⟨_, _, _, _, _, h⟩ | ⟨_, h⟩ <;> cases h
theorem nopen_ins {C dx : Addr} {fs : List (Str × V)} : ¬ IsPen (.ins C dx fs) := fun h => by
  rcases h with ⟨_, _, _, _, _, h⟩ | ⟨_, h⟩ <;> cases h
theorem nopen_frz {o : Obj} {u : HO} : ¬ IsPen (.frz o u) := fun h => by
  rcases h with ⟨_, _, _, _, _, h⟩ | ⟨_, h⟩ <;> cases h
theorem nopen_edk : ¬ IsPen (.dK []) := fun h => by
  rcases h with ⟨_, _, _, _, _, h⟩ | ⟨_, h⟩ <;> cases h
theorem nopen_code {c : Addr} {q : Str} : ¬ IsPen (CodeO c q) := fun h => by
  unfold CodeO at h
  rcases h with ⟨_, _, _, _, _, h⟩ | ⟨_, h⟩ <;> cases h
theorem nopen_dT {kvs : List (List Key × V)} : ¬ IsPen (.dT kvs) := fun h => by
  rcases h with ⟨_, _, _, _, _, h⟩ | ⟨_, h⟩ <;> cases h
theorem Le.seqT {K : PySem.W.Frag} {G G' : Hp} {B B' : Int} {a : Addr} {xs : List V} (l : Le G B G' B') (h : SqT K G a xs) : SqT K G' a xs := by
  rcases h with (h | ⟨o, h⟩) | h
  · exact .inl (.inl (l.keep _ _ h nopen_tup))
  · exact .inl (.inr ⟨o, l.keep _ _ h nopen_frz⟩)
  · exact .inr h
theorem Le.seqL {K : PySem.W.Frag} {G G' : Hp} {B B' : Int} {a : Addr} {xs : List V} (l : Le G B G' B') (h : SqL K G a xs) : SqL K G' a xs := by
  rcases h with (h | ⟨o, h⟩) | h
  · exact .inl (.inl (l.keep _ _ h nopen_lst))
  · exact .inl (.inr ⟨o, l.keep _ _ h nopen_frz⟩)
  · exact .inr h
section
variable {K : PySem.W.Frag} {G G' : Hp} {B B' : Int}
mutual
theorem Rep.mono (l : Le G B G' B') : ∀ {d : D} {v : V}, Rep K G B d v → Rep K G' B' d v
  | .non, _, h => h
  | .bl _, _, h => h
  | .int _, _, h => h
  | .str _, _, h => h
  | .tup _, _, ⟨a, vs, e, h, r⟩ => ⟨a, vs, e, l.seqT h, RepL.mono l r⟩
  | .lst _, _, ⟨a, vs, e, h, r⟩ => ⟨a, vs, e, l.keep _ _ h nopen_lst, RepL.mono l r⟩
  | .ins _ _ _, _, ⟨a, dx, vs, e, h, n, r⟩ => ⟨a, dx, vs, e, l.keep _ _ h nopen_ins, n, RepL.mono l r⟩
  | .pen k j, _, ⟨hT, a, c, ns, s, r, e, h, hc, n, h0, h1⟩ => by
    obtain ⟨s', r', h', q⟩ := l.pen a k j c s r h
    exact ⟨l.tb hT, a, c, ns, s', r', e, h', l.keep _ _ hc nopen_lst, n, (q h0 h1).1, (q h0 h1).2⟩
  | .val _, _, h => h
  | .at_ _ _, _, ⟨e, h⟩ => ⟨e, Rep.mono l h⟩
  | .tb _, _, ⟨e, h⟩ => ⟨l.tb e, Rep.mono l h⟩
  | .edk, _, ⟨a, e, h⟩ => ⟨a, e, l.keep _ _ h nopen_edk⟩
  | .dk _ _, _, ⟨a, vs, e, h, n, r⟩ => ⟨a, vs, e, l.keep _ _ h n, n, RepL.mono l r⟩
  | .kt _, _, ⟨a, e, h⟩ => ⟨a, e, l.keep _ _ h nopen_tup⟩
  | .dt _ _ _, _, ⟨a, vs, e, h, n, r⟩ => ⟨a, vs, e, h.imp (fun z => l.keep _ _ z nopen_dT) (fun z => ⟨z.1, let ⟨o, y⟩ := z.2; ⟨o, l.keep _ _ y nopen_frz⟩⟩), n, RepL.mono l r⟩
  | .lam _ _, _, ⟨f, d, e, h1, h2, n⟩ => ⟨f, d, e, l.keep _ _ h1 n, l.keep _ _ h2 nopen_code, n⟩
  | .scr _, _, ⟨hT, a, e, h⟩ => ⟨l.tb hT, a, e, l.seqL h⟩
theorem RepL.mono (l : Le G B G' B') : ∀ {ds : List D} {vs : List V}, RepL K G B ds vs → RepL K G' B' ds vs
  | [], _, h => h
  | _ :: _, _, ⟨v, r, e, h, hr⟩ => ⟨v, r, e, Rep.mono l h, RepL.mono l hr⟩
end
theorem RepL.length : ∀ {ds : List D} {vs : List V}, RepL K G B ds vs → ds.length = vs.length
  | [], _, h => by rw [show _ = _ from h]; rfl
  | _ :: _, _, ⟨v, r, e, h, hr⟩ => by rw [e, List.length_cons, List.length_cons, RepL.length hr]
theorem RepL.get : ∀ {ds : List D} {vs : List V} {i : Nat} {d : D}, RepL K G B ds vs → ds[i]? = some d → ∃ v, vs[i]? = some v ∧ Rep K G B d v
  | [], _, _, _, _, e => by simp at e
  | _ :: _, _, 0, d, ⟨v, r, e, h, hr⟩, q => by
    simp at q; subst q
    exact ⟨v, by rw [e]; rfl, h⟩
  | _ :: _, _, i + 1, d, ⟨v, r, e, h, hr⟩, q => by
    obtain ⟨u, h1, h2⟩ := RepL.get (i := i) hr (by simpa using q)
    exact ⟨u, by rw [e]; simpa using h1, h2⟩
theorem RepL.get' : ∀ {ds : List D} {vs : List V} {i : Nat} {v : V}, RepL K G B ds vs → vs[i]? = some v → ∃ d, ds[i]? = some d ∧ Rep K G B d v
  | [], _, i, _, h, e => by rw [show _ = _ from h] at e; simp at e
  | d :: _, _, 0, v, ⟨u, r, e, h, hr⟩, q => by
    rw [e] at q; simp at q; subst q
    exact ⟨d, rfl, h⟩
  | d :: _, _, i + 1, v, ⟨u, r, e, h, hr⟩, q => by
    rw [e] at q
    obtain ⟨w, h1, h2⟩ := RepL.get' (i := i) hr (by simpa using q)
    exact ⟨w, by simpa using h1, h2⟩
theorem RepL.append : ∀ {ds es : List D} {vs ws : List V}, RepL K G B ds vs → RepL K G B es ws → RepL K G B (ds ++ es) (vs ++ ws)
  | [], _, _, _, h, k => by rw [show _ = _ from h]; exact k
  | _ :: _, _, _, _, ⟨v, r, e, h, hr⟩, k => ⟨v, r ++ _, by rw [e]; rfl, h, RepL.append hr k⟩
theorem RepL.take : ∀ {ds : List D} {vs : List V} (n : Nat), RepL K G B ds vs → RepL K G B (ds.take n) (vs.take n)
  | _, _, 0, _ => by simp [RepL]
  | [], _, n + 1, h => by rw [show _ = _ from h]; simp [RepL]
  | _ :: _, _, n + 1, ⟨v, r, e, h, hr⟩ => ⟨v, r.take n, by rw [e]; rfl, h, RepL.take n hr⟩
theorem RepL.drop : ∀ {ds : List D} {vs : List V} (n : Nat), RepL K G B ds vs → RepL K G B (ds.drop n) (vs.drop n)
  | _, _, 0, h => h
  | [], _, n + 1, h => by rw [show _ = _ from h]; simp [RepL]
  | _ :: _, _, n + 1, ⟨v, r, e, h, hr⟩ => by rw [e]; exact RepL.drop n hr
theorem RepL.ints : ∀ ns : List Int, RepL K G B (ns.map D.int) (ns.map V.int)
  | [] => rfl
  | _ :: r => ⟨_, _, rfl, rfl, RepL.ints r⟩
end
/-- no table, no tuple -/
abbrev NTb (o : HO) : Prop := (∀ ps, o ≠ .tbl ps) ∧ ∀ xs, o ≠ .tup xs
/-- the heap H with its known part G, grown to H' with G' -/
structure Ext (G H : Hp) (B : Int) (G' H' : Hp) (B' : Int) : Prop where
  le : Le G B G' B'
  sub : Sub G' H'
  fr : ∀ a o, H a = some o → G a = none → NTb o → H' a = some o ∧ G' a = none
theorem Ext.refl {G H : Hp} {B : Int} (s : Sub G H) : Ext G H B G H B := ⟨Le.refl _ _, s, fun _ _ h n _ => ⟨h, n⟩⟩
theorem Ext.trans {G H G1 H1 G2 H2 : Hp} {B B1 B2 : Int} (a : Ext G H B G1 H1 B1) (b : Ext G1 H1 B1 G2 H2 B2) : Ext G H B G2 H2 B2 :=
  ⟨a.le.trans b.le, b.sub, fun c o h n t => b.fr c o (a.fr c o h n t).1 (a.fr c o h n t).2 t⟩
/-- a new known object -/
theorem Ext.new {G H : Hp} {B : Int} {p : Addr} {o : HO} (s : Sub G H) (h : H p = none) : Ext G H B (upd G p o) (upd H p o) B := by
  have g : G p = none := by
    cases e : G p with
    | none => rfl
    | some u => rw [s _ _ e] at h; cases h
  refine ⟨Le.of_sub (fun a u e => by rw [upd_ne (ne_of_none e g)]; exact e) (Int.le_refl _), fun a u e => ?_, fun a u e n _ => ?_⟩
  · by_cases q : a = p
    · subst q; rw [upd_same] at e ⊢; exact e
    · rw [upd_ne q] at e ⊢; exact s _ _ e
  · have q := ne_of_none e h
    rw [upd_ne q, upd_ne q]
    exact ⟨e, n⟩
/-- a new object that is not told -/
theorem Ext.hid {G H : Hp} {B : Int} {p : Addr} {o : HO} (s : Sub G H) (h : H p = none) : Ext G H B G (upd H p o) B :=
  ⟨Le.refl _ _, fun a u e => by rw [upd_ne (ne_of_none (s _ _ e) h)]; exact s _ _ e, fun a u e n _ => ⟨by rw [upd_ne (ne_of_none e h)]; exact e, n⟩⟩
def EnvR (K : PySem.W.Frag) (G : Hp) (B : Int) : List (Option D) → L2.St → Prop
  | [], σ => σ = []
  | o :: ρ, σ => ∃ x r, σ = x :: r ∧ (∀ d, o = some d → ∃ v, x = some v ∧ Rep K G B d v) ∧ EnvR K G B ρ r
section
variable {K : PySem.W.Frag} {G G' : Hp} {B B' : Int}
theorem EnvR.mono (l : Le G B G' B') : ∀ {ρ : List (Option D)} {σ : L2.St}, EnvR K G B ρ σ → EnvR K G' B' ρ σ
  | [], _, h => h
  | _ :: _, _, ⟨x, r, e, h, hr⟩ => ⟨x, r, e, fun d q => let ⟨v, h1, h2⟩ := h d q; ⟨v, h1, h2.mono l⟩, EnvR.mono l hr⟩
theorem EnvR.get : ∀ {ρ : List (Option D)} {σ : L2.St} {i : Nat} {d : D}, EnvR K G B ρ σ → ρ[i]? = some (some d) → ∃ v, σ[i]? = some (some v) ∧ Rep K G B d v
  | [], _, _, _, _, e => by simp at e
  | _ :: _, _, 0, d, ⟨x, r, e, h, hr⟩, q => by
    simp at q; subst q
    obtain ⟨v, h1, h2⟩ := h d rfl
    exact ⟨v, by rw [e, h1]; rfl, h2⟩
  | _ :: _, _, i + 1, d, ⟨x, r, e, h, hr⟩, q => by
    obtain ⟨v, h1, h2⟩ := EnvR.get (i := i) hr (by simpa using q)
    exact ⟨v, by rw [e]; simpa using h1, h2⟩
theorem EnvR.set {d : D} {v : V} (hv : Rep K G B d v) : ∀ {ρ : List (Option D)} {σ : L2.St} (i : Nat), EnvR K G B ρ σ → EnvR K G B (ρ.set i (some d)) (σ.set i (some v))
  | [], _, _, h => by rw [show _ = _ from h]; exact rfl
  | _ :: _, _, 0, ⟨x, r, e, h, hr⟩ => ⟨some v, r, by rw [e]; rfl, fun d' q => by cases q; exact ⟨v, rfl, hv⟩, hr⟩
  | _ :: _, _, i + 1, ⟨x, r, e, h, hr⟩ => ⟨x, r.set i (some v), by rw [e]; rfl, h, EnvR.set hv i hr⟩
theorem EnvR.wipe1 : ∀ {ρ : List (Option D)} {σ : L2.St} (i : Nat), EnvR K G B ρ σ → EnvR K G B (ρ.set i none) (σ.set i none)
  | [], _, _, h => by rw [show _ = _ from h]; exact rfl
  | _ :: _, _, 0, ⟨x, r, e, h, hr⟩ => ⟨none, r, by rw [e]; rfl, (fun d' q => by cases q), hr⟩
  | _ :: _, _, i + 1, ⟨x, r, e, h, hr⟩ => ⟨x, r.set i none, by rw [e]; rfl, h, EnvR.wipe1 i hr⟩
theorem EnvR.len : ∀ {ρ : List (Option D)} {σ : L2.St}, EnvR K G B ρ σ → ρ.length = σ.length
  | [], _, h => by rw [show _ = _ from h]; rfl
  | _ :: _, _, ⟨x, r, e, h, hr⟩ => by rw [e, List.length_cons, List.length_cons, EnvR.len hr]
theorem EnvR.of_vals : ∀ {ds : List D} {vs : List V} (n : Nat), RepL K G B ds vs → EnvR K G B (ds.map some ++ List.replicate n none) (vs.map some ++ List.replicate n none)
  | [], _, n, h => by
    rw [show _ = _ from h]
    show EnvR K G B (List.replicate n none) (List.replicate n none)
    induction n with
    | zero => exact rfl
    | succ n ih => exact ⟨none, List.replicate n none, rfl, (fun d q => by cases q), ih⟩
  | d :: _, _, n, ⟨v, r, e, h, hr⟩ => ⟨some v, r.map some ++ List.replicate n none, by rw [e]; rfl, fun d' q => by cases q; exact ⟨v, rfl, h⟩, EnvR.of_vals n hr⟩
end
def wipeD (ρ : List (Option D)) : List Nat → List (Option D)
  | [] => ρ
  | v :: vs => (wipeD ρ vs).set v none
theorem EnvR.wipe {K : PySem.W.Frag} {G : Hp} {B : Int} {ρ : List (Option D)} {σ : L2.St} (h : EnvR K G B ρ σ) : ∀ vs : List Nat, EnvR K G B (wipeD ρ vs) (L2.wipe σ vs)
  | [] => h
  | v :: vs => EnvR.wipe1 v (EnvR.wipe h vs)
def startD (N : List Str) (ds : List D) : List (Option D) := ds.map some ++ List.replicate (N.length - ds.length) none
/-- what is wanted of errors: class, fields, the pens' bound -/
abbrev EW := Addr → Option (List Str × List D) → Int → Prop
def XOk (K : PySem.W.Frag) (E : XK) (e : EW) (G H : Hp) (B : Int) : Prop := ∀ C f B' G' H', e C f B' → Ext G H B G' H' B' →
  match f with
  | none => E (.ref C) none H'
  | some (ns, ds) => ∀ dx vs, H' dx = some (.xd (ns.zip vs)) → ns.length = vs.length → RepL K G' B' ds vs → E (.ref C) (some dx) H'
theorem XOk.ext {K : PySem.W.Frag} {E : XK} {e : EW} {G H G1 H1 : Hp} {B B1 : Int} (x : XOk K E e G H B) (h : Ext G H B G1 H1 B1) : XOk K E e G1 H1 B1 := fun C f B' G' H' q h' => x C f B' G' H' q (h.trans h')
abbrev KD := D → Int → Prop
abbrev KL := List D → Int → Prop
abbrev KE' := List (Option D) → Int → Prop
def KOk (K : PySem.W.Frag) (k : KD) (Q : VK) (G H : Hp) (B : Int) : Prop := ∀ d v B' G' H', k d B' → Ext G H B G' H' B' → Rep K G' B' d v → Q v H'
theorem KOk.ext {K : PySem.W.Frag} {k : KD} {Q : VK} {G H G1 H1 : Hp} {B B1 : Int} (x : KOk K k Q G H B) (h : Ext G H B G1 H1 B1) : KOk K k Q G1 H1 B1 := fun d v B' G' H' q h' => x d v B' G' H' q (h.trans h')
def NOk (K : PySem.W.Frag) (k : KE') (Q : L2.St → Hp → Prop) (G H : Hp) (B : Int) : Prop := ∀ ρ σ B' G' H', k ρ B' → Ext G H B G' H' B' → EnvR K G' B' ρ σ → Q σ H'
theorem NOk.ext {K : PySem.W.Frag} {k : KE'} {Q : L2.St → Hp → Prop} {G H G1 H1 : Hp} {B B1 : Int} (x : NOk K k Q G H B) (h : Ext G H B G1 H1 B1) : NOk K k Q G1 H1 B1 := fun d v B' G' H' q h' => x d v B' G' H' q (h.trans h')
/-- an expression -/
def We (K : PySem.W.Frag) (E : XK) (e : EW) (t : TE) (ρ : List (Option D)) (B : Int) (k : KD) : Prop := ∀ σ H G Q, Sub G H → EnvR K G B ρ σ → XOk K E e G H B → KOk K k Q G H B → t σ H Q
/-- a test -/
def Wt (K : PySem.W.Frag) (E : XK) (e : EW) (t : TT) (ρ : List (Option D)) (B : Int) (k : Bool → Int → Prop) : Prop := ∀ σ H G (Q : Bool → Hp → Prop), Sub G H → EnvR K G B ρ σ → XOk K E e G H B → (∀ b B' G' H', k b B' → Ext G H B G' H' B' → Q b H') → t σ H Q
/-- arguments -/
def Wa (K : PySem.W.Frag) (E : XK) (e : EW) (t : TA) (ρ : List (Option D)) (B : Int) (k : KL) : Prop := ∀ σ H G (Q : List V → Hp → Prop), Sub G H → EnvR K G B ρ σ → XOk K E e G H B → (∀ ds vs B' G' H', k ds B' → Ext G H B G' H' B' → RepL K G' B' ds vs → Q vs H') → t σ H Q
structure KS where
  nx : KE' := fun _ _ => False
  rt : KD
  bk : KE' := fun _ _ => False
  ct : KE' := fun _ _ => False
structure EndsOk (K : PySem.W.Frag) (κ : KS) (Dn : Ends) (G H : Hp) (B : Int) : Prop where
  nx : NOk K κ.nx Dn.nx G H B
  rt : KOk K κ.rt Dn.rt G H B
  bk : NOk K κ.bk Dn.bk G H B
  ct : NOk K κ.ct Dn.ct G H B
theorem EndsOk.ext {K : PySem.W.Frag} {κ : KS} {Dn : Ends} {G H G1 H1 : Hp} {B B1 : Int} (x : EndsOk K κ Dn G H B) (h : Ext G H B G1 H1 B1) : EndsOk K κ Dn G1 H1 B1 := ⟨x.nx.ext h, x.rt.ext h, x.bk.ext h, x.ct.ext h⟩
/-- a statement -/
def Ws (K : PySem.W.Frag) (E : XK) (e : EW) (t : TS) (ρ : List (Option D)) (B : Int) (κ : KS) : Prop := ∀ σ H G Dn, Sub G H → EnvR K G B ρ σ → XOk K E e G H B → EndsOk K κ Dn G H B → t Dn σ H
/-- a target -/
def Wg (K : PySem.W.Frag) (g : TG) (d : D) (ρ : List (Option D)) (B : Int) (k : KE') : Prop := ∀ v σ H G Q, Sub G H → EnvR K G B ρ σ → Rep K G B d v → NOk K k Q G H B → g v σ H Q
def Wgs (K : PySem.W.Frag) (g : TGs) (ds : List D) (ρ : List (Option D)) (B : Int) (k : KE') : Prop := ∀ vs σ H G Q, Sub G H → EnvR K G B ρ σ → RepL K G B ds vs → NOk K k Q G H B → g vs σ H Q
section
variable {K : PySem.W.Frag} {E : XK} {e : EW} {ρ : List (Option D)} {B : Int} {k : KD} {κ : KS} {ta tb : TE} {t : TA}
theorem We.at {t : TE} {d : D} (h : ∀ σ H G, Sub G H → EnvR K G B ρ σ → ∃ v, Rep K G B d v ∧ ∀ Q : VK, Q v H → t σ H Q) (hk : k d B) : We K E e t ρ B k := fun σ H G Q s en x q => by
  obtain ⟨v, r, f⟩ := h σ H G s en
  exact f Q (q d v B G H hk (Ext.refl s) r)
theorem we_var {i : Nat} {d : D} (h : ρ[i]? = some (some d)) (hk : k d B) : We K E e (tVar i) ρ B k :=
  We.at (fun σ H G s en => let ⟨v, h1, h2⟩ := en.get h; ⟨v, h2, fun Q q => ⟨v, h1, q⟩⟩) hk
theorem we_int {i : Int} (hk : k (.int i) B) : We K E e (tC (.int i)) ρ B k := We.at (d := (.int i)) (fun σ H G s en => ⟨.int i, rfl, fun Q q => q⟩) hk
theorem we_bl {i : Bool} (hk : k (.bl i) B) : We K E e (tC (.bl i)) ρ B k := We.at (d := (.bl i)) (fun σ H G s en => ⟨.bl i, rfl, fun Q q => q⟩) hk
theorem we_str {i : Str} (hk : k (.str i) B) : We K E e (tC (.str i)) ρ B k := We.at (d := (.str i)) (fun σ H G s en => ⟨.str i, rfl, fun Q q => q⟩) hk
theorem we_val {v : V} (hk : k (.val v) B) : We K E e (tC v) ρ B k := We.at (d := .val v) (fun σ H G s en => ⟨v, rfl, fun Q q => q⟩) hk
theorem we_non (hk : k .non B) : We K E e (tC .non) ρ B k := We.at (d := .non) (fun σ H G s en => ⟨.non, rfl, fun Q q => q⟩) hk
theorem We.imp {t : TE} {k' : KD} (h : We K E e t ρ B k) (f : ∀ d B', k d B' → k' d B') : We K E e t ρ B k' := fun σ H G Q s en x q => h σ H G Q s en x fun d v B' G' H' hk => q d v B' G' H' (f d B' hk)
/-- two values -/
def Ro (K : PySem.W.Frag) (E : XK) (e : EW) (r : R2) (a b : D) (B : Int) (k : KD) : Prop := ∀ x y H G Q, Sub G H → Rep K G B a x → Rep K G B b y → XOk K E e G H B → KOk K k Q G H B → r x y H Q
theorem we_op {r : R2} (h : We K E e ta ρ B fun a B1 => We K E e tb ρ B1 fun b B2 => Ro K E e r a b B2 k) : We K E e (tOp r ta tb) ρ B k := fun σ H G Q s en x q =>
  h σ H G _ s en x fun a v B1 G1 H1 h1 e1 r1 => h1 σ H1 G1 _ e1.sub (en.mono e1.le) (x.ext e1) fun b u B2 G2 H2 h2 e2 r2 =>
    h2 v u H2 G2 Q e2.sub (r1.mono e2.le) r2 (x.ext (e1.trans e2)) (q.ext (e1.trans e2))
theorem ro_i0 {f : Int → Int → Int} {i j : Int} (h : k (.int (f i j)) B) : Ro K E e (rI0 fun i j => V.int (f i j)) (.int i) (.int j) B k := fun x y H G Q s r1 r2 _ q =>
  ⟨i, j, r1, r2, q _ _ _ _ _ h (Ext.refl s) rfl⟩
theorem ro_b0 {f : Int → Int → Bool} {i j : Int} (h : k (.bl (f i j)) B) : Ro K E e (rI0 fun i j => V.bl (f i j)) (.int i) (.int j) B k := fun x y H G Q s r1 r2 _ q =>
  ⟨i, j, r1, r2, q _ _ _ _ _ h (Ext.refl s) rfl⟩
theorem ro_i {f : Int → Int → Int} {C : Int → Int → Prop} {i j : Int} (c : C i j) (h : k (.int (f i j)) B) : Ro K E e (rI C fun i j => V.int (f i j)) (.int i) (.int j) B k := fun x y H G Q s r1 r2 _ q =>
  ⟨i, j, r1, r2, c, q _ _ _ _ _ h (Ext.refl s) rfl⟩
theorem we_un {r : V → Hp → VK → Prop} (h : We K E e ta ρ B fun a B1 => ∀ x H G Q, Sub G H → Rep K G B1 a x → XOk K E e G H B1 → KOk K k Q G H B1 → r x H Q) : We K E e (tUn r ta) ρ B k := fun σ H G Q s en x q =>
  h σ H G _ s en x fun a v B1 G1 H1 h1 e1 r1 => h1 v H1 G1 Q e1.sub r1 (x.ext e1) (q.ext e1)
theorem we_neg {f : Int → Int} (h : We K E e ta ρ B fun a B1 => ∃ i, a = .int i ∧ k (.int (f i)) B1) : We K E e (tUn (rU fun i => V.int (f i)) ta) ρ B k :=
  we_un (h.imp fun a B1 ⟨i, ea, hk⟩ x H G Q s r xo q => by
    subst ea
    exact ⟨i, r, q _ _ _ _ _ hk (Ext.refl s) rfl⟩)
theorem wa_nil {k : KL} (h : k [] B) : Wa K E e tNil ρ B k := fun σ H G Q s en x q => q _ _ _ _ _ h (Ext.refl s) rfl
theorem wa_cons {k : KL} (h : We K E e ta ρ B fun a B1 => Wa K E e t ρ B1 fun ds B2 => k (a :: ds) B2) : Wa K E e (tCons ta t) ρ B k := fun σ H G Q s en x q =>
  h σ H G _ s en x fun a v B1 G1 H1 h1 e1 r1 => h1 σ H1 G1 _ e1.sub (en.mono e1.le) (x.ext e1) fun ds vs B2 G2 H2 h2 e2 r2 => q _ _ _ _ _ h2 (e1.trans e2) ⟨v, vs, rfl, r1.mono e2.le, r2⟩
theorem we_tup (h : Wa K E e t ρ B fun ds B1 => ds.length ≤ sizeLine ∧ k (.tup ds) B1) : We K E e (tTup t) ρ B k := fun σ H G Q s en x q =>
  h σ H G _ s en x fun ds vs B1 G1 H1 ⟨h0, h1⟩ e1 r1 => ⟨by rw [← r1.length]; exact h0, fun p np => q _ _ _ _ _ h1 (e1.trans (Ext.new e1.sub np)) ⟨p, vs, rfl, SqT.of upd_same, r1.mono (Ext.new (B := B1) e1.sub np).le⟩⟩
theorem we_lst (h : Wa K E e t ρ B fun ds B1 => ds.length ≤ sizeLine ∧ k (.lst ds) B1) : We K E e (tLst t) ρ B k := fun σ H G Q s en x q =>
  h σ H G _ s en x fun ds vs B1 G1 H1 ⟨h0, h1⟩ e1 r1 => ⟨by rw [← r1.length]; exact h0, fun p np => q _ _ _ _ _ h1 (e1.trans (Ext.new e1.sub np)) ⟨p, vs, rfl, upd_same, r1.mono (Ext.new (B := B1) e1.sub np).le⟩⟩
theorem we_fld {f : Str} (h : We K E e ta ρ B fun d B1 => ∃ C ns ds d', d = .ins C ns ds ∧ Cls K C ∧ NoAttr K C f ∧ (ns.zip ds).lookup f = some d' ∧ k d' B1) : We K E e (tFld K ta f) ρ B k := fun σ H G Q s en x q =>
  h σ H G _ s en x fun d v B1 G1 H1 ⟨C, ns, ds, d', ed, c, n, l, h1⟩ e1 r1 => by
    subst ed
    obtain ⟨a, dx, vs, rfl, ha, hl, hr⟩ := r1
    have z : ∀ (ns : List Str) (ds : List D) (vs : List V), RepL K G1 B1 ds vs → (ns.zip ds).lookup f = some d' → ∃ v, (ns.zip vs).lookup f = some v ∧ Rep K G1 B1 d' v := by
      intro ns
      induction ns with
      | nil => intro ds vs _ h; simp at h
      | cons n r ih =>
        intro ds vs hr h
        cases ds with
        | nil => simp at h
        | cons d0 ds =>
          obtain ⟨v0, vr, rfl, h0, h1⟩ := hr
          rw [List.zip_cons_cons, List.lookup_cons] at h ⊢
          cases hq : (f == n) with
          | true => rw [hq] at h; exact ⟨v0, rfl, by cases h; exact h0⟩
          | false => rw [hq] at h; exact ih ds vr h1 h
    obtain ⟨v, lv, rv⟩ := z ns ds vs hr l
    exact ⟨a, C, dx, _, v, rfl, e1.sub _ _ ha, c, n, lv, q _ _ _ _ _ h1 e1 rv⟩
theorem we_ifE {c : TT} (h : Wt K E e c ρ B fun b B1 => (b = true → We K E e ta ρ B1 k) ∧ (b = false → We K E e tb ρ B1 k)) : We K E e (tIf c ta tb) ρ B k := fun σ H G Q s en x q =>
  h σ H G _ s en x fun b B1 G1 H1 h1 e1 => by
    cases b with
    | true => exact h1.1 rfl σ H1 G1 Q e1.sub (en.mono e1.le) (x.ext e1) (q.ext e1)
    | false => exact h1.2 rfl σ H1 G1 Q e1.sub (en.mono e1.le) (x.ext e1) (q.ext e1)
theorem we_and (h : We K E e ta ρ B fun d B1 => ∃ b, d = .bl b ∧ (b = true → We K E e tb ρ B1 k) ∧ (b = false → k (.bl false) B1)) : We K E e (tAndV ta tb) ρ B k := fun σ H G Q s en x q =>
  h σ H G _ s en x fun d v B1 G1 H1 ⟨b, ed, h1, h2⟩ e1 r1 => by
    subst ed
    refine ⟨b, r1, ?_⟩
    cases b with
    | true => exact h1 rfl σ H1 G1 Q e1.sub (en.mono e1.le) (x.ext e1) (q.ext e1)
    | false => exact q _ _ _ _ _ (h2 rfl) e1 rfl
theorem we_or (h : We K E e ta ρ B fun d B1 => ∃ b, d = .bl b ∧ (b = true → k (.bl true) B1) ∧ (b = false → We K E e tb ρ B1 k)) : We K E e (tOrV ta tb) ρ B k := fun σ H G Q s en x q =>
  h σ H G _ s en x fun d v B1 G1 H1 ⟨b, ed, h1, h2⟩ e1 r1 => by
    subst ed
    refine ⟨b, r1, ?_⟩
    cases b with
    | true => exact q _ _ _ _ _ (h1 rfl) e1 rfl
    | false => exact h2 rfl σ H1 G1 Q e1.sub (en.mono e1.le) (x.ext e1) (q.ext e1)
theorem we_not (h : We K E e ta ρ B fun d B1 => ∃ b, d = .bl b ∧ k (.bl (!b)) B1) : We K E e (tNotV ta) ρ B k := fun σ H G Q s en x q =>
  h σ H G _ s en x fun d v B1 G1 H1 ⟨b, ed, h1⟩ e1 r1 => by
    subst ed
    exact ⟨b, r1, q _ _ _ _ _ h1 e1 rfl⟩
def isNon : D → Bool
  | .non => true
  | .val v => decide (v = .non)
  | .at_ _ d => isNon d
  | .tb d => isNon d
  | _ => false
theorem Rep.isNon {G : Hp} {B : Int} : ∀ {d : D} {v : V}, Rep K G B d v → decide (v = V.non) = isNon d
  | .non, _, h => by rw [show _ = _ from h]; rfl
  | .bl _, _, h => by rw [show _ = _ from h]; rfl
  | .int _, _, h => by rw [show _ = _ from h]; rfl
  | .str _, _, h => by rw [show _ = _ from h]; rfl
  | .tup _, _, ⟨a, vs, e, _⟩ => by rw [e]; rfl
  | .lst _, _, ⟨a, vs, e, _⟩ => by rw [e]; rfl
  | .ins _ _ _, _, ⟨a, dx, vs, e, _⟩ => by rw [e]; rfl
  | .pen _ _, _, ⟨_, a, _, _, _, _, e, _⟩ => by rw [e]; rfl
  | .scr _, _, ⟨_, a, e, _⟩ => by rw [e]; rfl
  | .lam _ _, _, ⟨f, d, e, _⟩ => by rw [e]; rfl
  | .at_ _ d, _, ⟨_, h⟩ => Rep.isNon (d := d) h
  | .tb d, _, ⟨_, h⟩ => Rep.isNon (d := d) h
  | .edk, _, ⟨a, e, _⟩ => by rw [e]; rfl
  | .kt _, _, ⟨a, e, _⟩ => by rw [e]; rfl
  | .dt _ _ _, _, ⟨a, vs, e, _⟩ => by rw [e]; rfl
  | .dk _ _, _, ⟨a, vs, e, _⟩ => by rw [e]; rfl
  | .val _, _, h => by rw [show _ = _ from h]; rfl
theorem we_isN (h : We K E e ta ρ B fun d B1 => k (.bl (isNon d)) B1) : We K E e (tIsN ta) ρ B k := fun σ H G Q s en x q =>
  h σ H G _ s en x fun d v B1 G1 H1 h1 e1 r1 => by
    rw [r1.isNon]
    exact q _ _ _ _ _ h1 e1 rfl
theorem we_notN (h : We K E e ta ρ B fun d B1 => k (.bl (!isNon d)) B1) : We K E e (tNotN ta) ρ B k := fun σ H G Q s en x q =>
  h σ H G _ s en x fun d v B1 G1 H1 h1 e1 r1 => by
    rw [r1.isNon]
    exact q _ _ _ _ _ h1 e1 rfl
variable {kb : Bool → Int → Prop} {c d : TT}
theorem wt_val (h : We K E e ta ρ B fun d B1 => ∃ b, d = .bl b ∧ kb b B1) : Wt K E e (tB ta) ρ B kb := fun σ H G Q s en x q =>
  h σ H G _ s en x fun d v B1 G1 H1 ⟨b, ed, h1⟩ e1 r1 => by
    subst ed
    exact ⟨b, r1, q _ _ _ _ h1 e1⟩
theorem wt_test (h : We K E e ta ρ B fun d B1 => ∃ b, d = .bl b ∧ kb b B1) : Wt K E e (tTest ta) ρ B kb := fun σ H G Q s en x q =>
  h σ H G _ s en x fun d v B1 G1 H1 ⟨b, ed, h1⟩ e1 r1 => by
    subst ed
    exact ⟨b, r1, q _ _ _ _ h1 e1⟩
theorem wt_not (h : Wt K E e c ρ B fun b B1 => kb (!b) B1) : Wt K E e (tNot c) ρ B kb := fun σ H G Q s en x q =>
  h σ H G _ s en x fun b B1 G1 H1 h1 e1 => q _ _ _ _ h1 e1
theorem wt_and (h : Wt K E e c ρ B fun b B1 => (b = true → Wt K E e d ρ B1 kb) ∧ (b = false → kb false B1)) : Wt K E e (tAnd c d) ρ B kb := fun σ H G Q s en x q =>
  h σ H G _ s en x fun b B1 G1 H1 h1 e1 => by
    cases b with
    | true => exact h1.1 rfl σ H1 G1 Q e1.sub (en.mono e1.le) (x.ext e1) fun b B2 G2 H2 h2 e2 => q _ _ _ _ h2 (e1.trans e2)
    | false => exact q _ _ _ _ (h1.2 rfl) e1
theorem wt_or (h : Wt K E e c ρ B fun b B1 => (b = true → kb true B1) ∧ (b = false → Wt K E e d ρ B1 kb)) : Wt K E e (tOr c d) ρ B kb := fun σ H G Q s en x q =>
  h σ H G _ s en x fun b B1 G1 H1 h1 e1 => by
    cases b with
    | true => exact q _ _ _ _ (h1.1 rfl) e1
    | false => exact h1.2 rfl σ H1 G1 Q e1.sub (en.mono e1.le) (x.ext e1) fun b B2 G2 H2 h2 e2 => q _ _ _ _ h2 (e1.trans e2)
variable {ts us : TS}
theorem ws_ret (h : We K E e ta ρ B κ.rt) : Ws K E e (tRet ta) ρ B κ := fun σ H G Dn s en x q => h σ H G _ s en x q.rt
theorem ws_next (h : κ.nx ρ B) : Ws K E e tNext ρ B κ := fun σ H G Dn s en x q => q.nx _ _ _ _ _ h (Ext.refl s) en
theorem ws_break (h : κ.bk ρ B) : Ws K E e tBreak ρ B κ := fun σ H G Dn s en x q => q.bk _ _ _ _ _ h (Ext.refl s) en
theorem ws_seq (h : Ws K E e ts ρ B { κ with nx := fun ρ' B' => Ws K E e us ρ' B' κ }) : Ws K E e (tSeq ts us) ρ B κ := fun σ H G Dn s en x q =>
  h σ H G _ s en x ⟨fun ρ' σ' B' G' H' h1 e1 en1 => h1 σ' H' G' Dn e1.sub en1 (x.ext e1) (q.ext e1), q.rt, q.bk, q.ct⟩
theorem ws_drop (h : We K E e ta ρ B fun _ B1 => κ.nx ρ B1) : Ws K E e (tDrop ta) ρ B κ := fun σ H G Dn s en x q =>
  h σ H G _ s en x fun d v B1 G1 H1 h1 e1 r1 => q.nx _ _ _ _ _ h1 e1 (en.mono e1.le)
theorem ws_if (h : Wt K E e c ρ B fun b B1 => (b = true → Ws K E e ts ρ B1 κ) ∧ (b = false → Ws K E e us ρ B1 κ)) : Ws K E e (tIfS c ts us) ρ B κ := fun σ H G Dn s en x q =>
  h σ H G _ s en x fun b B1 G1 H1 h1 e1 => by
    cases b with
    | true => exact h1.1 rfl σ H1 G1 Dn e1.sub (en.mono e1.le) (x.ext e1) (q.ext e1)
    | false => exact h1.2 rfl σ H1 G1 Dn e1.sub (en.mono e1.le) (x.ext e1) (q.ext e1)
theorem ws_set {i : Nat} (h : We K E e ta ρ B fun d B1 => κ.nx (ρ.set i (some d)) B1) : Ws K E e (tAsg ta (gName i)) ρ B κ := fun σ H G Dn s en x q =>
  h σ H G _ s en x fun d v B1 G1 H1 h1 e1 r1 => q.nx _ _ _ _ _ h1 e1 (EnvR.set r1 i (en.mono e1.le))
theorem ws_asg {g : TG} (h : We K E e ta ρ B fun d B1 => Wg K g d ρ B1 κ.nx) : Ws K E e (tAsg ta g) ρ B κ := fun σ H G Dn s en x q =>
  h σ H G _ s en x fun d v B1 G1 H1 h1 e1 r1 => h1 v σ H1 G1 _ e1.sub (en.mono e1.le) r1 (q.nx.ext e1)
theorem ws_par {i j : Nat} (h : Wa K E e t ρ B fun ds B1 => ∃ a b, ds = [a, b] ∧ κ.nx ((ρ.set i (some a)).set j (some b)) B1) : Ws K E e (tPar i j t) ρ B κ := fun σ H G Dn s en x q =>
  h σ H G _ s en x fun ds vs B1 G1 H1 ⟨a, b, ed, h1⟩ e1 r1 => by
    subst ed
    obtain ⟨v, _, rfl, ra, u, _, rfl, rb, rfl⟩ := r1
    exact ⟨v, u, rfl, q.nx _ _ _ _ _ h1 e1 (EnvR.set rb j (EnvR.set ra i (en.mono e1.le)))⟩
theorem wg_name {i : Nat} {d : D} {k : KE'} (h : k (ρ.set i (some d)) B) : Wg K (gName i) d ρ B k := fun v σ H G Q s en r q => q _ _ _ _ _ h (Ext.refl s) (EnvR.set r i en)
theorem wgs_nil {k : KE'} (h : k ρ B) : Wgs K gNil [] ρ B k := fun vs σ H G Q s en r q => ⟨r, q _ _ _ _ _ h (Ext.refl s) en⟩
theorem wgs_cons {g : TG} {gs : TGs} {d : D} {ds : List D} {k : KE'} (h : Wg K g d ρ B fun ρ1 B1 => Wgs K gs ds ρ1 B1 k) : Wgs K (gCons g gs) (d :: ds) ρ B k := fun vs σ H G Q s en r q => by
  obtain ⟨v, w, rfl, r1, r2⟩ := r
  exact ⟨v, w, rfl, h v σ H G _ s en r1 fun ρ1 σ1 B1 G1 H1 h1 e1 en1 => h1 w σ1 H1 G1 Q e1.sub en1 (r2.mono e1.le) (q.ext e1)⟩
theorem wg_tup {n : Nat} {gs : TGs} {ds : List D} {k : KE'} (hn : ds.length = n) (h : Wgs K gs ds ρ B k) : Wg K (gTup K n gs) (.tup ds) ρ B k := fun v σ H G Q s en r q => by
  obtain ⟨a, vs, rfl, ha, hr⟩ := r
  exact ⟨a, vs, rfl, (Le.of_sub (B := B) (B' := B) s (Int.le_refl _)).seqT ha, by rw [← hr.length]; exact hn, h vs σ H G Q s en hr q⟩
end
end AW

set_option linter.all false
set_option maxRecDepth 100000
set_option maxHeartbeats 4000000
namespace AW
open PySem PySem.Spec PyProof.Rows L2
variable [Tbs]
abbrev Pr := List D → Int → KD → EW → Prop
def noE : EW := fun _ _ _ => False
def spD (K : PySem.W.Frag) (pr : Pr) : Sp := fun vs H Q E => ∃ G ds B k e, Sub G H ∧ RepL K G B ds vs ∧ pr ds B k e ∧ KOk K k Q G H B ∧ XOk K E e G H B
theorem XOk.no {K : PySem.W.Frag} {E : XK} {G H : Hp} {B : Int} : XOk K E noE G H B := fun _ _ _ _ _ h => h.elim
theorem spD_len {K : PySem.W.Frag} {pr : Pr} {n : Nat} (h : ∀ ds B k e, pr ds B k e → ds.length = n) : ∀ vs H Q E, spD K pr vs H Q E → vs.length = n := fun vs H Q E ⟨G, ds, B, k, e, _, r, p, _⟩ => by
  rw [← r.length]
  exact h _ _ _ _ p
section
variable {K : PySem.W.Frag} {E E' : XK} {e : EW} {ρ : List (Option D)} {B : Int} {k : KD} {κ : KS} {ta tb : TE} {t : TA} {pr : Pr}
theorem we_call (h : Wa K E e t ρ B fun ds B1 => pr ds B1 k noE) : We K E e (tCall (spD K pr) [] E' t) ρ B k := fun σ H G Q s en x q =>
  h σ H G _ s en x fun ds vs B1 G1 H1 h1 e1 r1 => by
    show spD K pr (vs ++ []) H1 Q E'
    rw [List.append_nil]
    exact ⟨G1, ds, B1, k, noE, e1.sub, r1, h1, q.ext e1, XOk.no⟩
theorem we_callE (h : Wa K E e t ρ B fun ds B1 => pr ds B1 k e) : We K E e (tCall (spD K pr) [] E t) ρ B k := fun σ H G Q s en x q =>
  h σ H G _ s en x fun ds vs B1 G1 H1 h1 e1 r1 => by
    show spD K pr (vs ++ []) H1 Q E
    rw [List.append_nil]
    exact ⟨G1, ds, B1, k, e, e1.sub, r1, h1, q.ext e1, x.ext e1⟩
theorem lookup_zip_none {m : Str} : ∀ {ns : List Str} {vs : List V}, (∀ n ∈ ns, (m == n) = false) → (ns.zip vs).lookup m = none
  | [], _, _ => by simp
  | n :: ns, [], _ => by simp
  | n :: ns, v :: vs, h => by
    rw [List.zip_cons_cons, List.lookup_cons, h n (List.mem_cons_self ..)]
    exact lookup_zip_none fun q hq => h q (List.mem_cons_of_mem _ hq)
theorem we_meth {C : Addr} {m : Str} (h : We K E e ta ρ B fun d B1 => ∃ ns fs, d = .ins C ns fs ∧ (∀ n ∈ ns, (m == n) = false) ∧ Wa K E e t ρ B1 fun ds B2 => pr (d :: ds) B2 k noE) : We K E e (tMeth C m (spD K pr) [] E' ta t) ρ B k := fun σ H G Q s en x q =>
  h σ H G _ s en x fun d v B1 G1 H1 ⟨ns, fs, ed, nm, h1⟩ e1 r1 => by
    subst ed
    obtain ⟨a, dx, vs, rfl, ha, hl, hr⟩ := id r1
    refine ⟨a, dx, _, rfl, e1.sub _ _ ha, lookup_zip_none nm, ?_⟩
    refine h1 σ H1 G1 _ e1.sub (en.mono e1.le) (x.ext e1) fun ds ws B2 G2 H2 h2 e2 r2 => ?_
    show spD K pr (.ref a :: (ws ++ [])) H2 Q E'
    rw [List.append_nil]
    exact ⟨G2, .ins C ns fs :: ds, B2, k, noE, e2.sub, ⟨_, _, rfl, r1.mono e2.le, r2⟩, h2, (q.ext e1).ext e2, XOk.no⟩
/-- the body runs -/
theorem run_body {N : List Str} {ts : TS} {G H : Hp} {ds : List D} {vs : List V} {Q : VK} (hs : Sub G H) (hr : RepL K G B ds vs) (hk : KOk K k Q G H B) (hx : XOk K E e G H B) (hN : startD N ds = ρ) (h : Ws K E e ts ρ B { nx := fun _ B' => k .non B', rt := k }) :
    ts { nx := fun _ H' => Q .non H', rt := Q } (L2.start N vs) H := by
  subst hN
  refine h _ H G _ hs ?_ hx ⟨fun ρ' σ' B' G' H' h1 e1 _ => hk _ _ _ _ _ h1 e1 rfl, hk, fun _ _ _ _ _ h => h.elim, fun _ _ _ _ _ h => h.elim⟩
  unfold startD L2.start
  rw [hr.length]
  exact EnvR.of_vals _ hr
/-- an __init__'s promise: from the arguments, the fields -/
def spI (K : PySem.W.Frag) (C : Addr) (ns : List Str) (pr : List D → Int → (List D → Int → Prop) → EW → Prop) : Sp := fun vs H Q E => ∃ p dx ws G ds B k e, vs = .ref p :: ws ∧ H p = some (.ins C dx []) ∧ G p = none ∧ G dx = none ∧ dx ≠ p ∧ H dx = some (.own p) ∧
  Sub G H ∧ RepL K G B ds ws ∧ pr ds B k e ∧
  (∀ fs us B' G' H', k fs B' → Le G B G' B' → Sub G' H' → (∀ a o, H a = some o → G a = none → a ≠ p → NTb o → H' a = some o ∧ G' a = none) → G' p = none → H' p = some (.ins C dx (ns.zip us)) → ns.length = us.length → RepL K G' B' fs us → Q .non H') ∧
  XOk K E e G H B
theorem we_make {C : Addr} {ns : List Str} {pi : List D → Int → (List D → Int → Prop) → EW → Prop} (h : Wa K E e t ρ B fun ds B1 => pi ds B1 (fun fs B2 => k (.ins C ns fs) B2) noE) : We K E e (tMake C (spI K C ns pi) [] E' t) ρ B k := fun σ H G Q s en x q =>
  h σ H G _ s en x fun ds vs B1 G1 H1 h1 e1 r1 => by
    show ∀ p dx, H1 p = none → H1 dx = none → dx ≠ p → _
    intro p dx np nd ne
    rw [List.append_nil]
    have gp : G1 p = none := by
      cases z : G1 p with
      | none => rfl
      | some u => rw [e1.sub _ _ z] at np; cases np
    have gd : G1 dx = none := by
      cases z : G1 dx with
      | none => rfl
      | some u => rw [e1.sub _ _ z] at nd; cases nd
    refine ⟨p, dx, vs, G1, ds, B1, _, noE, rfl, upd_same, gp, gd, ne, by rw [upd_ne ne, upd_same], fun a o z => ?_, r1, h1, fun fs us B2 G2 H2 hk le sub fr g2 h2 hl hr => ⟨rfl, ?_⟩, XOk.no⟩
    · have := e1.sub _ _ z
      rw [upd_ne (ne_of_none this np), upd_ne (ne_of_none this nd)]
      exact this
    · have e2 : Ext G H B (upd G2 p (.ins C dx (ns.zip us))) H2 B2 := by
        refine ⟨(e1.le.trans le).trans (Le.of_sub (fun a o z => by rw [upd_ne (ne_of_none z g2)]; exact z) (Int.le_refl _)), fun a o z => ?_, fun a o z n t => ?_⟩
        · by_cases hq : a = p
          · subst hq; rw [upd_same] at z; cases z; exact h2
          · rw [upd_ne hq] at z; exact sub _ _ z
        · obtain ⟨z1, z2⟩ := e1.fr a o z n t
          have hq : a ≠ p := ne_of_none z1 np
          obtain ⟨z3, z4⟩ := fr a o (by rw [upd_ne hq, upd_ne (ne_of_none z1 nd)]; exact z1) z2 hq t
          exact ⟨z3, by rw [upd_ne hq]; exact z4⟩
      exact q _ _ _ _ _ hk e2 ⟨p, dx, us, rfl, upd_same, hl, hr.mono (Le.of_sub (fun a o z => by rw [upd_ne (ne_of_none z g2)]; exact z) (Int.le_refl _))⟩
mutual
def py : D → PyData
  | .non => .none
  | .bl b => .bool b
  | .int i => .int i
  | .str x => .str x
  | .tup ds => .tuple (pyL ds)
  | .lst ds => .list (pyL ds)
  | .ins _ _ _ => .none
  | .pen _ _ => .none
  | .scr _ => .none
  | .val _ => .none
  | .lam _ _ => .none
  | .at_ _ d => py d
  | .tb d => py d
  | .edk => .none
  | .dk _ _ => .none
  | .kt _ => .none
  | .dt _ _ _ => .none
def pyL : List D → List PyData
  | [] => []
  | d :: ds => py d :: pyL ds
end
mutual
def pyOk : D → Bool
  | .tup ds => pyOkL ds
  | .lst ds => pyOkL ds
  | .ins _ _ _ => false
  | .pen _ _ => false
  | .scr _ => false
  | .val _ => false
  | .lam _ _ => false
  | .at_ _ d => pyOk d
  | .tb d => pyOk d
  | .edk => false
  | .dk _ _ => false
  | .kt _ => false
  | .dt _ _ _ => false
  | _ => true
def pyOkL : List D → Bool
  | [] => true
  | d :: ds => pyOk d && pyOkL ds
end
mutual
theorem Rep.dp {G H : Hp} {B : Int} (s : Sub G H) : ∀ {d : D} {v : V}, Rep K G B d v → pyOk d = true → Dp K H v (py d)
  | .non, _, h, _ => by rw [show _ = _ from h]; exact .non
  | .bl _, _, h, _ => by rw [show _ = _ from h]; exact .bl _
  | .int _, _, h, _ => by rw [show _ = _ from h]; exact .int _
  | .str _, _, h, _ => by rw [show _ = _ from h]; exact .str _
  | .tup _, _, ⟨a, vs, e, h, hr⟩, o => by rw [e]; exact .tup ((Le.of_sub (B := B) (B' := B) s (Int.le_refl _)).seqT h) (RepL.dp s hr o)
  | .lst _, _, ⟨a, vs, e, h, hr⟩, o => by rw [e]; exact .lst (SqL.of (s _ _ h)) (RepL.dp s hr o)
  | .ins _ _ _, _, _, o => nomatch o
  | .pen _ _, _, _, o => nomatch o
  | .scr _, _, _, o => nomatch o
  | .val _, _, _, o => nomatch o
  | .lam _ _, _, _, o => nomatch o
  | .at_ _ d, _, ⟨_, h⟩, o => Rep.dp s (d := d) h o
  | .tb d, _, ⟨_, h⟩, o => Rep.dp s (d := d) h o
  | .edk, _, _, o => nomatch o
  | .dk _ _, _, _, o => nomatch o
  | .kt _, _, _, o => nomatch o
  | .dt _ _ _, _, _, o => nomatch o
theorem RepL.dp {G H : Hp} {B : Int} (s : Sub G H) : ∀ {ds : List D} {vs : List V}, RepL K G B ds vs → pyOkL ds = true → DpAll K H vs (pyL ds)
  | [], _, h, _ => by rw [show _ = _ from h]; exact .nil
  | d :: ds, _, ⟨v, r, e, h, hr⟩, o => by
    rw [e]
    have o' : (pyOk d && pyOkL ds) = true := o
    rw [Bool.and_eq_true] at o'
    exact .cons (Rep.dp s h o'.1) (RepL.dp s hr o'.2)
end
theorem ro_eqD {a b : D} (oa : pyOk a = true) (ob : pyOk b = true) (sa : SeqAt.shaped (py a) = true) (sb : SeqAt.shaped (py b) = true) (h : k (.bl (PyData.eqv (py a) (py b))) B) : Ro K E e (rEqD K) a b B k := fun x y H G Q s r1 r2 _ q =>
  ⟨_, _, Rep.dp s r1 oa, Rep.dp s r2 ob, sa, sb, q _ _ _ _ _ h (Ext.refl s) rfl⟩
theorem ro_neD {a b : D} (oa : pyOk a = true) (ob : pyOk b = true) (sa : SeqAt.shaped (py a) = true) (sb : SeqAt.shaped (py b) = true) (h : k (.bl (!PyData.eqv (py a) (py b))) B) : Ro K E e (rNeD K) a b B k := fun x y H G Q s r1 r2 _ q =>
  ⟨_, _, Rep.dp s r1 oa, Rep.dp s r2 ob, sa, sb, q _ _ _ _ _ h (Ext.refl s) rfl⟩
theorem ro_eqI {i j : Int} (h : k (.bl (decide (i = j))) B) : Ro K E e rEq (.int i) (.int j) B k := fun x y H G Q s r1 r2 _ q => by
  rw [show x = _ from r1, show y = _ from r2]
  have e1 : decide (V.int i = V.int j) = decide (i = j) := by
    by_cases z : i = j
    · subst z; simp
    · rw [decide_eq_false z, decide_eq_false fun w => z (V.int.inj w)]
  refine ⟨rfl, ?_⟩
  rw [e1]
  exact q _ _ _ _ _ h (Ext.refl s) rfl
theorem ro_neI {i j : Int} (h : k (.bl (!decide (i = j))) B) : Ro K E e rNe (.int i) (.int j) B k := fun x y H G Q s r1 r2 _ q => by
  rw [show x = _ from r1, show y = _ from r2]
  have e1 : decide (V.int i = V.int j) = decide (i = j) := by
    by_cases z : i = j
    · subst z; simp
    · rw [decide_eq_false z, decide_eq_false fun w => z (V.int.inj w)]
  refine ⟨rfl, ?_⟩
  rw [e1]
  exact q _ _ _ _ _ h (Ext.refl s) rfl
theorem RepL.ixN {G : Hp} {ds : List D} {vs : List V} {i : Int} {d : D} (r : RepL K G B ds vs) (h : atI ds i = some d) : ∃ v, atI vs i = some v ∧ Rep K G B d v := by
  unfold atI at h ⊢
  rw [← r.length]
  cases z : L2.ixN ds.length i with
  | none => rw [z] at h; cases h
  | some j =>
    rw [z] at h
    exact r.get h
theorem ro_ixT {ds : List D} {i : Int} {d : D} (h : atI ds i = some d) (hk : k d B) : Ro K E e (rIxT K) (.tup ds) (.int i) B k := fun x y H G Q s r1 r2 _ q => by
  obtain ⟨a, vs, rfl, ha, hr⟩ := r1
  obtain ⟨v, h1, h2⟩ := hr.ixN h
  exact ⟨a, vs, i, v, rfl, r2, (Le.of_sub (B := B) (B' := B) s (Int.le_refl _)).seqT ha, h1, q _ _ _ _ _ hk (Ext.refl s) h2⟩
theorem ro_ixL {ds : List D} {i : Int} {d : D} (h : atI ds i = some d) (hk : k d B) : Ro K E e (rIxL K) (.lst ds) (.int i) B k := fun x y H G Q s r1 r2 _ q => by
  obtain ⟨a, vs, rfl, ha, hr⟩ := r1
  obtain ⟨v, h1, h2⟩ := hr.ixN h
  exact ⟨a, vs, i, v, rfl, r2, SqL.of (s _ _ ha), h1, q _ _ _ _ _ hk (Ext.refl s) h2⟩
theorem we_cb {r : List V → Hp → VK → Prop} (h : Wa K E e t ρ B fun ds B1 => ∀ vs H G Q, Sub G H → RepL K G B1 ds vs → KOk K k Q G H B1 → r vs H Q) : We K E e (tCB r t) ρ B k := fun σ H G Q s en x q =>
  h σ H G _ s en x fun ds vs B1 G1 H1 h1 e1 r1 => h1 vs H1 G1 Q e1.sub r1 (q.ext e1)
theorem cb_fun1 {f : Int → Int} {r : List V → Hp → VK → Prop} (hr : ∀ i H Q, Q (.int (f i)) H → r [.int i] H Q) {ds : List D} (h : ∃ i, ds = [.int i] ∧ k (.int (f i)) B) : ∀ vs H G Q, Sub G H → RepL K G B ds vs → KOk K k Q G H B → r vs H Q := fun vs H G Q s r1 q => by
  obtain ⟨i, rfl, hk⟩ := h
  obtain ⟨v, _, rfl, rv, rfl⟩ := r1
  rw [show v = _ from rv]
  exact hr i H Q (q _ _ _ _ _ hk (Ext.refl s) rfl)
theorem cb_fun2 {f : Int → Int → Int} {r : List V → Hp → VK → Prop} (hr : ∀ i j H Q, Q (.int (f i j)) H → r [.int i, .int j] H Q) {ds : List D} (h : ∃ i j, ds = [.int i, .int j] ∧ k (.int (f i j)) B) : ∀ vs H G Q, Sub G H → RepL K G B ds vs → KOk K k Q G H B → r vs H Q := fun vs H G Q s r1 q => by
  obtain ⟨i, j, rfl, hk⟩ := h
  obtain ⟨v, _, rfl, rv, u, _, rfl, ru, rfl⟩ := r1
  rw [show v = _ from rv, show u = _ from ru]
  exact hr i j H Q (q _ _ _ _ _ hk (Ext.refl s) rfl)
theorem we_intof (h : Wa K E e t ρ B fun ds B1 => ∃ i, ds = [.int i] ∧ k (.int i) B1) : We K E e (tCB (fun xs H Q => (∃ i, xs = [.int i] ∧ Q (.int i) H) ∨ ∃ k, xs = [.bl k] ∧ Q (.int (if k then 1 else 0)) H) t) ρ B k :=
  we_cb fun σ H G Q s en x q => h σ H G Q s en x fun ds vs B1 G1 H1 h1 e1 r1 => q ds vs B1 G1 H1 (cb_fun1 (f := fun i => i) (fun i H Q q => .inl ⟨i, rfl, q⟩) h1) e1 r1
theorem we_gcd (h : Wa K E e t ρ B fun ds B1 => ∃ i j, ds = [.int i, .int j] ∧ k (.int ((Nat.gcd i.natAbs j.natAbs : Nat) : Int)) B1) : We K E e (tCB rGcd t) ρ B k :=
  we_cb fun σ H G Q s en x q => h σ H G Q s en x fun ds vs B1 G1 H1 h1 e1 r1 => q ds vs B1 G1 H1 (cb_fun2 (f := fun i j => ((Nat.gcd i.natAbs j.natAbs : Nat) : Int)) (fun i j H Q q => ⟨i, j, rfl, q⟩) h1) e1 r1
theorem we_lenL (h : Wa K E e t ρ B fun ds B1 => ∃ xs, ds = [.lst xs] ∧ k (.int xs.length) B1) : We K E e (tCB (fun xs H Q => ∃ p ys, xs = [.ref p] ∧ (SqL K H p ys ∨ SqT K H p ys) ∧ Q (.int ys.length) H) t) ρ B k :=
  we_cb fun σ H G Q s en x q => h σ H G Q s en x fun ds vs B1 G1 H1 ⟨xs, ed, h1⟩ e1 r1 => q ds vs B1 G1 H1 (fun ws H2 G2 Q2 s2 r2 q2 => by
    subst ed
    obtain ⟨v, _, rfl, ⟨a, us, rfl, ha, hr⟩, rfl⟩ := r2
    exact ⟨a, us, rfl, .inl (SqL.of (s2 _ _ ha)), by rw [← hr.length]; exact q2 _ _ _ _ _ h1 (Ext.refl s2) rfl⟩) e1 r1
theorem we_lenT (h : Wa K E e t ρ B fun ds B1 => ∃ xs, ds = [.tup xs] ∧ k (.int xs.length) B1) : We K E e (tCB (fun xs H Q => ∃ p ys, xs = [.ref p] ∧ (SqL K H p ys ∨ SqT K H p ys) ∧ Q (.int ys.length) H) t) ρ B k :=
  we_cb fun σ H G Q s en x q => h σ H G Q s en x fun ds vs B1 G1 H1 ⟨xs, ed, h1⟩ e1 r1 => q ds vs B1 G1 H1 (fun ws H2 G2 Q2 s2 r2 q2 => by
    subst ed
    obtain ⟨v, _, rfl, ⟨a, us, rfl, ha, hr⟩, rfl⟩ := r2
    exact ⟨a, us, rfl, .inr ((Le.of_sub (B := B1) (B' := B1) s2 (Int.le_refl _)).seqT ha), by rw [← hr.length]; exact q2 _ _ _ _ _ h1 (Ext.refl s2) rfl⟩) e1 r1
variable {wi : TI} {g : TG} {tbody : TS} {tl : TE}
theorem ws_for_list (h : We K E e tl ρ B fun d B1 => ∃ ds, d = .lst ds ∧ ∃ I : Nat → KE', I 0 ρ B1 ∧ (∀ i x ρ' B', ds[i]? = some x → I i ρ' B' → Wg K g x ρ' B' fun ρ2 B2 => Ws K E e tbody ρ2 B2 { nx := I (i + 1), rt := κ.rt, bk := κ.nx, ct := I (i + 1) }) ∧ ∀ ρ' B', I ds.length ρ' B' → κ.nx ρ' B') :
    Ws K E e (tFor (iList K tl) g tbody) ρ B κ := fun σ H G Dn s en x q =>
  h σ H G _ s en x fun d v B1 G1 H1 ⟨ds, ed, I, i0, hs, hd⟩ e1 r1 => by
    subst ed
    obtain ⟨a, vs, rfl, ha, hr⟩ := r1
    refine ⟨a, rfl, ⟨vs, SqL.of (e1.sub _ _ ha)⟩, ?_⟩
    refine for_list (xs := vs) (fun i σ' H' => ∃ ρ' B' G', I i ρ' B' ∧ Ext G1 H1 B1 G' H' B' ∧ EnvR K G' B' ρ' σ') ⟨ρ, B1, G1, i0, Ext.refl e1.sub, en.mono e1.le⟩ (fun i σ' H' _ ⟨_, _, G', _, e2, _⟩ => SqL.of (e2.sub _ _ (e2.le.keep _ _ ha nopen_lst))) ?_ ?_
    · rintro i y σ' H' hi ⟨ρ', B', G', hI, e2, en2⟩
      obtain ⟨dx, hdx, rx⟩ := hr.get' hi
      refine hs i dx ρ' B' hdx hI y σ' H' G' _ e2.sub en2 (rx.mono e2.le) fun ρ2 σ2 B2 G2 H2 h2 e3 en3 => ?_
      have eA := e1.trans (e2.trans e3)
      exact h2 σ2 H2 G2 _ e3.sub en3 (x.ext eA) ⟨fun ρ3 σ3 B3 G3 H3 h3 e4 en4 => ⟨ρ3, B3, G3, h3, (e2.trans e3).trans e4, en4⟩, q.rt.ext eA, q.nx.ext eA, fun ρ3 σ3 B3 G3 H3 h3 e4 en4 => ⟨ρ3, B3, G3, h3, (e2.trans e3).trans e4, en4⟩⟩
    · rintro σ' H' ⟨ρ', B', G', hI, e2, en2⟩
      rw [← hr.length] at hI
      exact q.nx _ _ _ _ _ (hd _ _ hI) (e1.trans e2) en2
theorem ws_for_tup (h : We K E e tl ρ B fun d B1 => ∃ ds, d = .tup ds ∧ ∃ I : Nat → KE', I 0 ρ B1 ∧ (∀ i x ρ' B', ds[i]? = some x → I i ρ' B' → Wg K g x ρ' B' fun ρ2 B2 => Ws K E e tbody ρ2 B2 { nx := I (i + 1), rt := κ.rt, bk := κ.nx, ct := I (i + 1) }) ∧ ∀ ρ' B', I ds.length ρ' B' → κ.nx ρ' B') :
    Ws K E e (tFor (iTup K tl) g tbody) ρ B κ := fun σ H G Dn s en x q =>
  h σ H G _ s en x fun d v B1 G1 H1 ⟨ds, ed, I, i0, hs, hd⟩ e1 r1 => by
    subst ed
    obtain ⟨a, vs, rfl, ha, hr⟩ := r1
    refine ⟨a, rfl, ⟨vs, (Le.of_sub (B := B) (B' := B) e1.sub (Int.le_refl _)).seqT ha⟩, ?_⟩
    refine for_tup (xs := vs) (fun i σ' H' => ∃ ρ' B' G', I i ρ' B' ∧ Ext G1 H1 B1 G' H' B' ∧ EnvR K G' B' ρ' σ') ⟨ρ, B1, G1, i0, Ext.refl e1.sub, en.mono e1.le⟩ (fun i σ' H' _ ⟨_, _, G', _, e2, _⟩ => (Le.of_sub (B := B) (B' := B) e2.sub (Int.le_refl _)).seqT (e2.le.seqT ha)) ?_ ?_
    · rintro i y σ' H' hi ⟨ρ', B', G', hI, e2, en2⟩
      obtain ⟨dx, hdx, rx⟩ := hr.get' hi
      refine hs i dx ρ' B' hdx hI y σ' H' G' _ e2.sub en2 (rx.mono e2.le) fun ρ2 σ2 B2 G2 H2 h2 e3 en3 => ?_
      have eA := e1.trans (e2.trans e3)
      exact h2 σ2 H2 G2 _ e3.sub en3 (x.ext eA) ⟨fun ρ3 σ3 B3 G3 H3 h3 e4 en4 => ⟨ρ3, B3, G3, h3, (e2.trans e3).trans e4, en4⟩, q.rt.ext eA, q.nx.ext eA, fun ρ3 σ3 B3 G3 H3 h3 e4 en4 => ⟨ρ3, B3, G3, h3, (e2.trans e3).trans e4, en4⟩⟩
    · rintro σ' H' ⟨ρ', B', G', hI, e2, en2⟩
      rw [← hr.length] at hI
      exact q.nx _ _ _ _ _ (hd _ _ hI) (e1.trans e2) en2
theorem for_range_D {n : Nat} {G H : Hp} {σ : L2.St} {Dn : Ends} (s : Sub G H) (en : EnvR K G B ρ σ) (x : XOk K E e G H B) (q : EndsOk K κ Dn G H B) (I : Nat → KE') (lo : Int) (i0 : I 0 ρ B)
    (hs : ∀ (i : Nat) ρ' B', i < n → I i ρ' B' → Wg K g (.int (lo + i)) ρ' B' fun ρ2 B2 => Ws K E e tbody ρ2 B2 { nx := I (i + 1), rt := κ.rt, bk := κ.nx, ct := I (i + 1) }) (hd : ∀ ρ' B', I n ρ' B' → κ.nx ρ' B') :
    ∃ W : Nat → Nat → L2.St → Hp → Prop, (∃ m, W 0 m σ H) ∧ ∀ i m σ H, W i m σ H →
      ((Itr lo n).stop i H ∧ Dn.nx σ H) ∨ ((Itr lo n).go i H ∧ ∃ N : L2.St → Hp → Prop, (∀ σ' H', N σ' H' → ∃ m', m' < m ∧ W (i + 1) m' σ' H') ∧ ∀ x H', (Itr lo n).yld i H x H' → g x σ H' fun σ2 H2 => tbody { Dn with nx := N, ct := N, bk := Dn.nx } σ2 H2) := by
  refine for_range (fun i σ' H' => ∃ ρ' B' G', I i ρ' B' ∧ Ext G H B G' H' B' ∧ EnvR K G' B' ρ' σ') ⟨ρ, B, G, i0, Ext.refl s, en⟩ ?_ ?_
  · rintro i σ' H' hi ⟨ρ', B', G', hI, e2, en2⟩
    refine hs i ρ' B' hi hI _ σ' H' G' _ e2.sub en2 rfl fun ρ2 σ2 B2 G2 H2 h2 e3 en3 => ?_
    have eA := e2.trans e3
    exact h2 σ2 H2 G2 _ e3.sub en3 (x.ext eA) ⟨fun ρ3 σ3 B3 G3 H3 h3 e4 en4 => ⟨ρ3, B3, G3, h3, (e2.trans e3).trans e4, en4⟩, q.rt.ext eA, q.nx.ext eA, fun ρ3 σ3 B3 G3 H3 h3 e4 en4 => ⟨ρ3, B3, G3, h3, (e2.trans e3).trans e4, en4⟩⟩
  · rintro σ' H' ⟨ρ', B', G', hI, e2, en2⟩
    exact q.nx _ _ _ _ _ (hd _ _ hI) e2 en2
theorem ws_for_range1 (h : Wa K E e t ρ B fun ds B1 => ∃ j : Int, ds = [.int j] ∧ -(2 ^ 62) ≤ j ∧ j < 2 ^ 62 ∧ ∃ I : Nat → KE', I 0 ρ B1 ∧ (∀ (i : Nat) ρ' B', i < j.toNat → I i ρ' B' → Wg K g (.int (0 + i)) ρ' B' fun ρ2 B2 => Ws K E e tbody ρ2 B2 { nx := I (i + 1), rt := κ.rt, bk := κ.nx, ct := I (i + 1) }) ∧ ∀ ρ' B', I j.toNat ρ' B' → κ.nx ρ' B') :
    Ws K E e (tFor (iRng1 t) g tbody) ρ B κ := fun σ H G Dn s en x q =>
  h σ H G _ s en x fun ds vs B1 G1 H1 ⟨j, ed, j0, j1, I, i0, hs, hd⟩ e1 r1 => by
    subst ed
    obtain ⟨v, _, rfl, rv, rfl⟩ := r1
    rw [show v = _ from rv]
    exact ⟨j, rfl, j0, j1, for_range_D e1.sub (en.mono e1.le) (x.ext e1) (q.ext e1) I 0 i0 hs hd⟩
variable {tt : TT} {te : TE} {E1 : XK}
theorem wt_yes {kb : Bool → Int → Prop} (h : kb true B) : Wt K E e tYes ρ B kb := fun σ H G Q s en x q => q _ _ _ _ h (Ext.refl s)
/-- the state of a comprehension whose list stands at L -/
def LcOk (K : PySem.W.Frag) (I : List D → Int → Prop) (L : Addr) (G1 H1 : Hp) (B1 : Int) (H' : Hp) : Prop := ∃ out B' G' acc, I out B' ∧ Ext G1 H1 B1 G' H' B' ∧ G' L = none ∧ H' L = some (.lst acc) ∧ RepL K G' B' out acc
theorem lc_step {I : Nat → List D → Int → Prop} {L : Addr} {G1 H1 : Hp} {B1 : Int} {σ : L2.St} {sl i : Nat} {d : D} {v : V} {H' : Hp} (nL : H1 L = none) (sub1 : Sub G1 H1) (en : EnvR K G1 B1 ρ σ) (h : LcOk K (fun out B => out.length ≤ i ∧ I i out B) L G1 H1 B1 H') (hi : i < sizeLine) (rv : Rep K G1 B1 d v)
    (hs : ∀ out B', I i out B' → Wt K E1 noE tt ((ρ.set sl none).set sl (some d)) B' fun b B3 => (b = true → We K E1 noE te ((ρ.set sl none).set sl (some d)) B3 fun y B4 => I (i + 1) (out ++ [y]) B4) ∧ (b = false → I (i + 1) out B3)) :
    gName sl v (wipe σ [sl]) H' fun σ2 H2 => wipe σ2 [sl] = wipe σ [sl] ∧ tt σ2 H2 fun b H3 => if b = true then te σ2 H3 fun y H4 => ∃ acc, H4 L = some (.lst acc) ∧ acc.length < sizeLine ∧ LcOk K (fun out B => out.length ≤ i + 1 ∧ I (i + 1) out B) L G1 H1 B1 (upd H4 L (.lst (acc ++ [y]))) else LcOk K (fun out B => out.length ≤ i + 1 ∧ I (i + 1) out B) L G1 H1 B1 H3 := by
  obtain ⟨out, B', G', acc, ⟨hl, hI⟩, e2, gL, hL, hr⟩ := h
  refine ⟨?_, ?_⟩
  · show ((σ.set sl none).set sl (some v)).set sl none = σ.set sl none
    rw [List.set_set, List.set_set]
  · have en2 : EnvR K G' B' ((ρ.set sl none).set sl (some d)) ((σ.set sl none).set sl (some v)) := EnvR.set (rv.mono e2.le) sl (EnvR.wipe1 sl (en.mono e2.le))
    refine hs out B' hI _ H' G' _ e2.sub en2 XOk.no fun b B3 G3 H3 h3 e3 => ?_
    cases b with
    | true =>
      rw [if_pos rfl]
      refine h3.1 rfl _ H3 G3 _ e3.sub (en2.mono e3.le) XOk.no fun y w B4 G4 H4 h4 e4 r4 => ?_
      obtain ⟨z1, z2⟩ := (e3.trans e4).fr L _ hL gL ⟨(fun _ z => nomatch z), fun _ z => nomatch z⟩
      refine ⟨acc, z1, by rw [← hr.length]; omega, out ++ [y], B4, G4, acc ++ [w], ⟨by rw [List.length_append, List.length_singleton]; omega, h4⟩, ?_, z2, upd_same, (hr.mono (e3.trans e4).le).append ⟨w, [], rfl, r4, rfl⟩⟩
      have eA := e2.trans (e3.trans e4)
      refine ⟨eA.le, fun a o z => ?_, fun a o z n t => ?_⟩
      · have : a ≠ L := fun q => by rw [q, z2] at z; cases z
        rw [upd_ne this]; exact eA.sub _ _ z
      · have : a ≠ L := ne_of_none z nL
        rw [upd_ne this]
        exact eA.fr _ _ z n t
    | false =>
      rw [if_neg Bool.false_ne_true]
      obtain ⟨z1, z2⟩ := e3.fr L _ hL gL ⟨(fun _ z => nomatch z), fun _ z => nomatch z⟩
      exact ⟨out, B3, G3, acc, ⟨Nat.le_succ_of_le hl, h3.2 rfl⟩, e2.trans e3, z2, z1, hr.mono e3.le⟩
theorem lc_end {I : List D → Int → Prop} {L : Addr} {G H G1 H1 : Hp} {B1 : Int} {Q : VK} {H' : Hp} (e1 : Ext G H B G1 H1 B1) (nL : H1 L = none) (h : LcOk K I L G1 H1 B1 H') (hd : ∀ out B', I out B' → k (.lst out) B') (q : KOk K k Q G H B) : Q (.ref L) H' := by
  obtain ⟨out, B', G', acc, hI, e2, gL, hL, hr⟩ := h
  have le : Le G' B' (upd G' L (.lst acc)) B' := Le.of_sub (fun a o z => by rw [upd_ne (ne_of_none z gL)]; exact z) (Int.le_refl _)
  refine q (.lst out) _ B' (upd G' L (.lst acc)) H' (hd _ _ hI) (e1.trans ⟨e2.le.trans le, fun a o z => ?_, fun a o z n t => ?_⟩) ⟨L, acc, rfl, upd_same, hr.mono le⟩
  · by_cases w : a = L
    · subst w; rw [upd_same] at z; cases z; exact hL
    · rw [upd_ne w] at z; exact e2.sub _ _ z
  · have w : a ≠ L := ne_of_none z nL
    rw [upd_ne w]
    exact e2.fr _ _ z n t
theorem lc_start {I : List D → Int → Prop} {L : Addr} {G1 H1 : Hp} {B1 : Int} (s : Sub G1 H1) (nL : H1 L = none) (h : I [] B1) : LcOk K I L G1 H1 B1 (upd H1 L (.lst [])) := by
  have g : G1 L = none := by
    cases z : G1 L with
    | none => rfl
    | some u => rw [s _ _ z] at nL; cases nL
  exact ⟨[], B1, G1, [], h, Ext.hid s nL, g, upd_same, rfl⟩
theorem LcOk.kept {I : List D → Int → Prop} {L : Addr} {G1 H1 : Hp} {B1 : Int} {H' : Hp} {a : Addr} {o : HO} (h : LcOk K I L G1 H1 B1 H') (ha : G1 a = some o) (n : ¬ IsPen o) : H' a = some o := by
  obtain ⟨out, B', G', acc, hI, e2, gL, hL, hr⟩ := h
  exact e2.sub _ _ (e2.le.keep _ _ ha n)
theorem we_lc_list {sl : Nat} (h : We K E e tl ρ B fun d B1 => ∃ ds, d = .lst ds ∧ ds.length < sizeLine ∧ ∃ I : Nat → List D → Int → Prop, I 0 [] B1 ∧
    (∀ i x out B', ds[i]? = some x → I i out B' → Wt K E1 noE tt ((ρ.set sl none).set sl (some x)) B' fun b B3 => (b = true → We K E1 noE te ((ρ.set sl none).set sl (some x)) B3 fun y B4 => I (i + 1) (out ++ [y]) B4) ∧ (b = false → I (i + 1) out B3)) ∧
    ∀ out B', out.length ≤ ds.length → I ds.length out B' → k (.lst out) B') : We K E e (tLc (iList K tl) (gName sl) tt te [sl]) ρ B k := fun σ H G Q s en x q =>
  h σ H G _ s en x fun d v B1 G1 H1 ⟨ds, ed, dl, I, i0, hs, hd⟩ e1 r1 => by
    subst ed
    obtain ⟨a, vs, rfl, ha, hr⟩ := r1
    refine ⟨a, rfl, ⟨vs, SqL.of (e1.sub _ _ ha)⟩, fun L nL => ?_⟩
    refine lc_list (xs := vs) (fun i H' => LcOk K (fun out B => out.length ≤ i ∧ I i out B) L G1 H1 B1 H') (lc_start e1.sub nL ⟨Nat.le_refl _, i0⟩) (fun i H' _ z => SqL.of (z.kept ha nopen_lst)) ?_ ?_
    · intro i y H' hi hz
      obtain ⟨dx, hdx, rx⟩ := hr.get' hi
      have hlt : i < ds.length := (List.getElem?_eq_some_iff.mp hdx).1
      exact lc_step nL e1.sub (en.mono e1.le) hz (by omega) rx (fun out B' hI => hs i dx out B' hdx hI)
    · intro H' hz
      refine lc_end e1 nL hz (fun out B' hI => ?_) q
      rw [← hr.length] at hI
      exact hd out B' hI.1 hI.2
theorem we_lc_tup {sl : Nat} (h : We K E e tl ρ B fun d B1 => ∃ ds, d = .tup ds ∧ ds.length < sizeLine ∧ ∃ I : Nat → List D → Int → Prop, I 0 [] B1 ∧
    (∀ i x out B', ds[i]? = some x → I i out B' → Wt K E1 noE tt ((ρ.set sl none).set sl (some x)) B' fun b B3 => (b = true → We K E1 noE te ((ρ.set sl none).set sl (some x)) B3 fun y B4 => I (i + 1) (out ++ [y]) B4) ∧ (b = false → I (i + 1) out B3)) ∧
    ∀ out B', out.length ≤ ds.length → I ds.length out B' → k (.lst out) B') : We K E e (tLc (iTup K tl) (gName sl) tt te [sl]) ρ B k := fun σ H G Q s en x q =>
  h σ H G _ s en x fun d v B1 G1 H1 ⟨ds, ed, dl, I, i0, hs, hd⟩ e1 r1 => by
    subst ed
    obtain ⟨a, vs, rfl, ha, hr⟩ := r1
    refine ⟨a, rfl, ⟨vs, (Le.of_sub (B := B) (B' := B) e1.sub (Int.le_refl _)).seqT ha⟩, fun L nL => ?_⟩
    refine lc_tup (xs := vs) (fun i H' => LcOk K (fun out B => out.length ≤ i ∧ I i out B) L G1 H1 B1 H') (lc_start e1.sub nL ⟨Nat.le_refl _, i0⟩) (fun i H' _ z => by
      obtain ⟨out, B', G', acc, hI, e2, _⟩ := z
      exact (Le.of_sub (B := B) (B' := B) e2.sub (Int.le_refl _)).seqT (e2.le.seqT ha)) ?_ ?_
    · intro i y H' hi hz
      obtain ⟨dx, hdx, rx⟩ := hr.get' hi
      have hlt : i < ds.length := (List.getElem?_eq_some_iff.mp hdx).1
      exact lc_step nL e1.sub (en.mono e1.le) hz (by omega) rx (fun out B' hI => hs i dx out B' hdx hI)
    · intro H' hz
      refine lc_end e1 nL hz (fun out B' hI => ?_) q
      rw [← hr.length] at hI
      exact hd out B' hI.1 hI.2
end
end AW

set_option linter.all false
set_option maxRecDepth 100000
set_option maxHeartbeats 4000000
namespace AW
open PySem PySem.Spec PyProof.Rows L2
variable [Tbs]
def CDivG (_ j : Int) : Prop := j ≠ 0 ∧ j.natAbs.log2 < 9000
section
variable {X : Cx}
/-- // by any number of up to 9000 bits -/
theorem op_fdivG : OpR X (binaryOp .FloorDiv) (rI CDivG fun i j => .int (i.fdiv j)) := opI fun _ _ _ _ _ _ _ hc q => floordiv_int hc.1 q (.inl (PyProof.noPylong_of_log2 hc.2))
end
section
variable {K : PySem.W.Frag} {E E' : XK} {e : EW} {ρ : List (Option D)} {B : Int} {k : KD} {κ : KS} {ta tb : TE} {t : TA} {pr : Pr}
theorem we_call0 (h : pr [] B k noE) : We K E e (tCall (spD K pr) [] E' tNil) ρ B k := we_call (wa_nil h)
theorem we_meth0 {C : Addr} {m : Str} (h : We K E e ta ρ B fun d B1 => ∃ ns fs, d = .ins C ns fs ∧ (∀ n ∈ ns, (m == n) = false) ∧ pr [d] B1 k noE) : We K E e (tMeth C m (spD K pr) [] E' ta tNil) ρ B k :=
  we_meth (h.imp fun d B1 ⟨ns, fs, ed, nm, h1⟩ => ⟨ns, fs, ed, nm, wa_nil h1⟩)
theorem we_max2 (h : Wa K E e t ρ B fun ds B1 => ∃ i j, ds = [.int i, .int j] ∧ k (.int (if j > i then j else i)) B1) : We K E e (tCB (fun xs H Q => ∃ i j, xs = [.int i, .int j] ∧ Q (.int (if j > i then j else i)) H) t) ρ B k :=
  we_cb fun σ H G Q s en x q => h σ H G Q s en x fun ds vs B1 G1 H1 h1 e1 r1 => q ds vs B1 G1 H1 (cb_fun2 (f := fun i j => if j > i then j else i) (fun i j H Q q => ⟨i, j, rfl, q⟩) h1) e1 r1
/-- a statement, what holds behind it, the rest -/
theorem ws_cut {ts us : TS} (J : KE') (h1 : Ws K E e ts ρ B { κ with nx := J }) (h2 : ∀ ρ' B', J ρ' B' → Ws K E e us ρ' B' κ) : Ws K E e (tSeq ts us) ρ B κ :=
  ws_seq fun σ H G Dn s en x q => h1 σ H G Dn s en x ⟨fun ρ' σ' B' G' H' z => q.nx ρ' σ' B' G' H' (h2 ρ' B' z), q.rt, q.bk, q.ct⟩
/-- list + list -/
theorem ro_catL {xs ys : List D} (hl : xs.length + ys.length ≤ sizeLine) (h : k (.lst (xs ++ ys)) B) : Ro K E e rCat (.lst xs) (.lst ys) B k := fun x y H G Q s r1 r2 _ q => by
  obtain ⟨a, vs, rfl, ha, hr⟩ := r1
  obtain ⟨b, ws, rfl, hb, hw⟩ := r2
  exact ⟨a, b, vs, ws, rfl, rfl, s _ _ ha, s _ _ hb, by rw [← hr.length, ← hw.length]; exact hl, fun p np =>
    q _ _ _ _ _ h (Ext.new s np) ⟨p, _, rfl, upd_same, (hr.append hw).mono (Ext.new (B := B) s np).le⟩⟩
end
mutual
/-- data without a dict is equal to itself -/
theorem eqv_self : ∀ d : D, PyData.eqv (py d) (py d) = true
  | .non => rfl
  | .bl b => by cases b <;> rfl
  | .int i => by simp [py, PyData.eqv]
  | .str x => by simp [py, PyData.eqv]
  | .tup ds => by show PyData.eqvAll (pyL ds) (pyL ds) = true; exact eqvAll_self ds
  | .lst ds => by show PyData.eqvAll (pyL ds) (pyL ds) = true; exact eqvAll_self ds
  | .ins _ _ _ => rfl
  | .pen _ _ => rfl
  | .scr _ => rfl
  | .val _ => rfl
  | .lam _ _ => rfl
  | .at_ _ d => eqv_self d
  | .tb d => eqv_self d
  | .edk => rfl
  | .dk _ _ => rfl
  | .kt _ => rfl
  | .dt _ _ _ => rfl
theorem eqvAll_self : ∀ ds : List D, PyData.eqvAll (pyL ds) (pyL ds) = true
  | [] => rfl
  | d :: ds => by
    show (PyData.eqv (py d) (py d) && PyData.eqvAll (pyL ds) (pyL ds)) = true
    rw [eqv_self d, eqvAll_self ds]
    rfl
end
abbrev t3 (x y a : Int) : D := .tup [.int x, .int y, .int a]
abbrev t2 (x y : Int) : D := .tup [.int x, .int y]
theorem eqv_t3 {x y a x' y' a' : Int} : PyData.eqv (py (t3 x y a)) (py (t3 x' y' a')) = decide (x = x' ∧ y = y' ∧ a = a') := by
  by_cases h : x = x' ∧ y = y' ∧ a = a'
  · obtain ⟨rfl, rfl, rfl⟩ := h
    rw [eqv_self]; simp
  · rw [decide_eq_false h, Bool.eq_false_iff]
    intro z
    simp [py, pyL, PyData.eqv, PyData.eqvAll] at z
    exact h ⟨z.1, z.2.1, z.2.2⟩
theorem shaped_of {d : D} (h1 : (py d).canLay0 = true) (h2 : decide ((py d).depth ≤ 64) = true) : SeqAt.shaped (py d) = true := by
  unfold SeqAt.shaped
  rw [h1, h2]; rfl
end AW

set_option linter.all false
set_option maxRecDepth 100000
set_option maxHeartbeats 4000000
namespace AW
open PySem PySem.Spec PyProof.Rows L2
variable [Tbs]
section
variable {K : PySem.W.Frag} {E E1 : XK} {e : EW} {ρ : List (Option D)} {B : Int} {k : KD} {tl te : TE} {sl : Nat}
end
/-- what the statement asks of the law -/
def spLaw (K : PySem.W.Frag) : Sp := fun vs H Q E => ∃ (a : Addr) (ns : List Int), vs = [.ref a] ∧ SqL K H a (ns.map V.int) ∧ ns.length ≤ 63 ∧ LamX.Tabs Tbs.T H ∧ ∀ H', Q (.bl true) H'
open Classical in
theorem spLaw_imp {K : PySem.W.Frag} {pr : Pr} (h : ∀ (ns : List Int) (k : KD), ns.length ≤ 63 → (∀ B', k (.bl true) B') → pr [.scr ns] 0 k noE) : ∀ vs H Q E, spLaw K vs H Q E → spD K pr vs H Q E := fun vs H Q E ⟨a, ns, ev, hS, hl, hT, kq⟩ => by
  subst ev
  let G : Hp := fun b => if b = a ∨ (∃ ps, H b = some (.tbl ps)) ∨ (∃ q, H b = some (LamX.CodeO b q)) then H b else none
  have gt : ∀ b, (b = a ∨ (∃ ps, H b = some (.tbl ps)) ∨ (∃ q, H b = some (LamX.CodeO b q))) → G b = H b := fun b h => if_pos h
  have ga : G a = H a := gt a (.inl rfl)
  refine ⟨G, [.scr ns], 0, fun d _ => d = .bl true, noE, fun b o z => ?_, ⟨_, [], rfl, ⟨fun p hp => ?_, a, rfl, ?_⟩, rfl⟩, h ns _ hl (fun _ => rfl), fun d v B' G' H' hd _ hr => ?_, XOk.no⟩
  · by_cases hb : b = a ∨ (∃ ps, H b = some (.tbl ps)) ∨ (∃ q, H b = some (LamX.CodeO b q))
    · rw [gt b hb] at z
      exact z
    · have z2 : G b = none := if_neg hb
      rw [z2] at z
      cases z
  · obtain ⟨ps, h1, h2, h3⟩ := hT p hp
    refine ⟨ps, by rw [gt _ (.inr (.inl ⟨ps, h1⟩))]; exact h1, h2, fun pos cv hc => ?_⟩
    obtain ⟨c, e1, e2⟩ := h3 pos cv hc
    exact ⟨c, e1, by rw [gt _ (.inr (.inr ⟨_, e2⟩))]; exact e2⟩
  · rcases hS with (hS | ⟨o, hS⟩) | hS
    · exact .inl (.inl (ga.trans hS))
    · exact .inl (.inr ⟨o, ga.trans hS⟩)
    · exact .inr hS
  · subst hd
    rw [show v = _ from hr]
    exact kq H'
end AW

set_option linter.all false
set_option maxRecDepth 100000
set_option maxHeartbeats 4000000
namespace AW
open PySem PySem.Spec PyProof.Rows L2 LamX
variable [Tbs]
section
variable {K : PySem.W.Frag} {E E' : XK} {e : EW} {ρ : List (Option D)} {B : Int} {k : KD} {κ : KS}
end
end AW

set_option linter.all false
set_option maxRecDepth 100000
set_option maxHeartbeats 4000000
namespace AW
open PySem PySem.Spec PyProof.Rows L2
variable [Tbs]
section
variable {K : PySem.W.Frag} {E E' : XK} {e : EW} {ρ : List (Option D)} {B : Int} {k : KD} {κ : KS} {ta tb : TE} {t : TA} {pr : Pr}
/-- all of them -/
theorem we_all (h : Wa K E e t ρ B fun ds B1 => ∃ bs : List Bool, ds = [.lst (bs.map D.bl)] ∧ k (.bl (bs.all id)) B1) : We K E e (tCB (rAll K) t) ρ B k :=
  we_cb fun σ H G Q s en x q => h σ H G Q s en x fun ds vs B1 G1 H1 ⟨bs, ed, hk⟩ e1 r1 => q ds vs B1 G1 H1 (fun ws H2 G2 Q2 s2 r2 q2 => by
    subst ed
    obtain ⟨v, _, rfl, ⟨a, us, rfl, ha, hr⟩, rfl⟩ := r2
    have z : ∀ (bs : List Bool) (us : List V), RepL K G2 B1 (bs.map D.bl) us → us = bs.map V.bl := by
      intro bs
      induction bs with
      | nil => intro us h; exact h
      | cons b r ih =>
        intro us h
        obtain ⟨v, w, rfl, h1, h2⟩ := h
        rw [show v = _ from h1, ih _ h2]
        rfl
    refine ⟨a, bs, rfl, ?_, q2 _ _ _ _ _ hk (Ext.refl s2) rfl⟩
    rw [← z bs us hr]
    exact SqL.of (s2 _ _ ha)) e1 r1
/-- a value with an address keeps it -/
def refD : D → Bool
  | .tup _ => true
  | .lst _ => true
  | .ins _ _ _ => true
  | .edk => true
  | _ => false
theorem Rep.refD {G : Hp} : ∀ {d : D} {v : V}, Rep K G B d v → AW.refD d = true → ∃ a, v = .ref a
  | .tup _, _, ⟨a, vs, e, _⟩, _ => ⟨a, e⟩
  | .lst _, _, ⟨a, vs, e, _⟩, _ => ⟨a, e⟩
  | .ins _ _ _, _, ⟨a, _, vs, e, _⟩, _ => ⟨a, e⟩
  | .non, _, _, o => nomatch o
  | .bl _, _, _, o => nomatch o
  | .int _, _, _, o => nomatch o
  | .str _, _, _, o => nomatch o
  | .pen _ _, _, _, o => nomatch o
  | .scr _, _, _, o => nomatch o
  | .val _, _, _, o => nomatch o
  | .lam _ _, _, _, o => nomatch o
  | .at_ _ _, _, _, o => nomatch o
  | .tb _, _, _, o => nomatch o
  | .edk, _, ⟨a, e, _⟩, _ => ⟨a, e⟩
  | .dk _ _, _, _, o => nomatch o
  | .kt _, _, _, o => nomatch o
  | .dt _ _ _, _, _, o => nomatch o
def seen (d d' : D) : Prop := d' = d ∧ AW.refD d = false ∨ (∃ a, d' = .at_ (.ref a) d) ∧ AW.refD d = true
def DSam : Eqv := fun x y _ => ∃ a, x = .ref a ∧ y = .ref a
def DOd : Eqv := fun x y H => DFlat x y H ∨ DSam x y H
inductive Alike : D → D → Prop where
  | non : Alike .non .non
  | bl (b : Bool) : Alike (.bl b) (.bl b)
  | int (i : Int) : Alike (.int i) (.int i)
  | str (x : Str) : Alike (.str x) (.str x)
  | at_ (a : Addr) (d d' : D) : Alike (.at_ (.ref a) d) (.at_ (.ref a) d')
theorem Alike.od {G H : Hp} {d d' : D} {v v' : V} (h : Alike d d') (r : Rep K G B d v) (r' : Rep K G B d' v') : DOd v v' H := by
  cases h with
  | non => rw [show v = _ from r, show v' = _ from r']; exact .inl ⟨rfl, rfl, rfl⟩
  | bl b => rw [show v = _ from r, show v' = _ from r']; exact .inl ⟨rfl, rfl, by cases b <;> rfl⟩
  | int i => rw [show v = _ from r, show v' = _ from r']; exact .inl ⟨rfl, rfl, by simp [eqV]⟩
  | str x => rw [show v = _ from r, show v' = _ from r']; exact .inl ⟨rfl, rfl, by simp [eqV]⟩
  | at_ a d d' => exact .inr ⟨a, r.1, r'.1⟩
inductive AlikeL : List D → List D → Prop where
  | nil : AlikeL [] []
  | cons {d d' : D} {ds ds' : List D} (h : Alike d d') (r : AlikeL ds ds') : AlikeL (d :: ds) (d' :: ds')
theorem AlikeL.len {ds ds' : List D} (h : AlikeL ds ds') : ds.length = ds'.length := by
  induction h with
  | nil => rfl
  | cons _ _ ih => rw [List.length_cons, List.length_cons, ih]
end
end AW

set_option linter.all false
set_option maxRecDepth 100000
set_option maxHeartbeats 4000000
namespace AW
open PySem PySem.Spec PyProof.Rows L2
variable [Tbs]
def tOr2E (t u : TE) : TE := fun σ H Q => t σ H Q ∨ u σ H Q
theorem pe_or2 {X : Cx} {e : Expr} {t u : TE} (h1 : PE X e t) (h2 : PE X e u) : PE X e (tOr2E t u) := ⟨fun pins s σ H Q I h => h.elim (h1.run pins s σ H Q I) (h2.run pins s σ H Q I)⟩
section
variable {K : PySem.W.Frag} {E E' E1 : XK} {e : EW} {ρ : List (Option D)} {B : Int} {k : KD} {κ : KS} {ta tb tl te : TE} {t : TA} {us : TS} {pr : Pr} {i sl : Nat} {ds : List D}
theorem EnvR.weakAt {G : Hp} {x : Option V} : ∀ {ρ : List (Option D)} {σ : L2.St} (i : Nat), EnvR K G B ρ σ → EnvR K G B (ρ.set i none) (σ.set i x)
  | [], _, _, h => by rw [show _ = _ from h]; exact rfl
  | _ :: _, _, 0, ⟨y, r, e, h, hr⟩ => ⟨x, r, by rw [e]; rfl, fun d q => (nomatch q), hr⟩
  | _ :: _, _, i + 1, ⟨y, r, e, h, hr⟩ => ⟨y, r.set i x, by rw [e]; rfl, h, EnvR.weakAt i hr⟩
/-- the list at slot i is not told yet: its items are ds -/
def Wsb (K : PySem.W.Frag) (E : XK) (e : EW) (t : TS) (ρ : List (Option D)) (B : Int) (i : Nat) (ds : List D) (κ : KS) : Prop :=
  ∀ σ H G Dn G0 H0 B0 p vs, Sub G H → EnvR K G B ρ σ → σ[i]? = some (some (.ref p)) → H0 p = none → G p = none → H p = some (.lst vs) → RepL K G B ds vs → Ext G0 H0 B0 G H B → XOk K E e G0 H0 B0 → EndsOk K κ Dn G0 H0 B0 → t Dn σ H
theorem wb_end {t : TS} (hi : i < ρ.length) (h : Ws K E e t (ρ.set i (some (.lst ds))) B κ) : Wsb K E e t ρ B i ds κ := fun σ H G Dn G0 H0 B0 p vs s en hp np gp hL hr ex x q => by
  have le : Le G B (upd G p (.lst vs)) B := Le.of_sub (fun a o z => by rw [upd_ne (ne_of_none z gp)]; exact z) (Int.le_refl _)
  have e1 : Ext G0 H0 B0 (upd G p (.lst vs)) H B := ⟨ex.le.trans le, fun a o z => by
    by_cases w : a = p
    · subst w; rw [upd_same] at z; cases z; exact hL
    · rw [upd_ne w] at z; exact s _ _ z, fun a o z n t => by
    rw [upd_ne (ne_of_none z np)]
    exact ex.fr _ _ z n t⟩
  have en1 := EnvR.set (d := .lst ds) (v := .ref p) ⟨p, vs, rfl, upd_same, hr.mono le⟩ i (en.mono le)
  have es : σ.set i (some (V.ref p)) = σ := by
    apply List.ext_getElem?
    intro j
    rw [List.getElem?_set]
    by_cases hj : i = j
    · subst hj
      rw [if_pos rfl, hp]
      split
      · rfl
      · have hl := en.len
        omega
    · rw [if_neg hj]
  rw [es] at en1
  exact h σ H (upd G p (.lst vs)) Dn e1.sub en1 (x.ext e1) (q.ext e1)
end
end AW

set_option linter.all false
set_option maxRecDepth 100000
set_option maxHeartbeats 4000000
namespace AW
open PySem PySem.Spec PyProof.Rows L2
variable [Tbs]
section
variable {K : PySem.W.Frag} {E E' E1 : XK} {e : EW} {ρ : List (Option D)} {B : Int} {k : KD} {κ : KS} {ta tb tl te ty : TE} {tt : TT} {t : TA} {us : TS} {pr : Pr} {i sl : Nat} {ds : List D}
theorem we_intofB (h : Wa K E e t ρ B fun ds B1 => ∃ b : Bool, ds = [.bl b] ∧ k (.int (if b then 1 else 0)) B1) : We K E e (tCB (fun xs H Q => (∃ i, xs = [.int i] ∧ Q (.int i) H) ∨ ∃ k, xs = [.bl k] ∧ Q (.int (if k then 1 else 0)) H) t) ρ B k :=
  we_cb fun σ H G Q s en x q => h σ H G Q s en x fun ds vs B1 G1 H1 ⟨b, ed, hk⟩ e1 r1 => q ds vs B1 G1 H1 (fun ws H2 G2 Q2 s2 r2 q2 => by
    subst ed
    obtain ⟨v, _, rfl, rv, rfl⟩ := r2
    rw [show v = _ from rv]
    exact .inr ⟨b, rfl, q2 _ _ _ _ _ hk (Ext.refl s2) rfl⟩) e1 r1
/-- xs * n -/
theorem ro_rep {xs : List D} {n : Int} (h0 : -(2 ^ 63) ≤ n) (h1 : n < 2 ^ 63) (hl : xs.length * n.toNat ≤ sizeLine) (hk : k (.lst (List.replicate n.toNat xs).flatten) B) : Ro K E e rRep (.lst xs) (.int n) B k := fun x y H G Q s r1 r2 _ q => by
  obtain ⟨a, vs, rfl, ha, hr⟩ := r1
  have rep : ∀ m : Nat, RepL K G B (List.replicate m xs).flatten (List.replicate m vs).flatten := by
    intro m
    induction m with
    | zero => exact rfl
    | succ m ih =>
      rw [List.replicate_succ, List.replicate_succ, List.flatten_cons, List.flatten_cons]
      exact hr.append ih
  exact ⟨a, n, vs, rfl, r2, s _ _ ha, h0, h1, by rw [← hr.length]; exact hl, fun p np => q _ _ _ _ _ hk (Ext.new (B := B) s np) ⟨p, _, rfl, upd_same, (rep _).mono (Ext.new (B := B) s np).le⟩⟩
theorem we_lc_range1 (h : Wa K E e t ρ B fun as B1 => ∃ j : Int, as = [.int j] ∧ -(2 ^ 62) ≤ j ∧ j < 2 ^ 62 ∧ j.toNat < sizeLine ∧ ∃ I : Nat → List D → Int → Prop, I 0 [] B1 ∧
    (∀ (i : Nat) out B', i < j.toNat → I i out B' → Wt K E1 noE tt ((ρ.set sl none).set sl (some (.int (0 + i)))) B' fun b B3 => (b = true → We K E1 noE te ((ρ.set sl none).set sl (some (.int (0 + i)))) B3 fun y B4 => I (i + 1) (out ++ [y]) B4) ∧ (b = false → I (i + 1) out B3)) ∧
    ∀ out B', out.length ≤ j.toNat → I j.toNat out B' → k (.lst out) B') : We K E e (tLc (iRng1 t) (gName sl) tt te [sl]) ρ B k := fun σ H G Q s en x q =>
  h σ H G _ s en x fun as vs B1 G1 H1 ⟨j, ed, j0, j1, jl, I, i0, hs, hd⟩ e1 r1 => by
    subst ed
    obtain ⟨v, _, rfl, rv, rfl⟩ := r1
    rw [show v = _ from rv]
    refine ⟨j, rfl, j0, j1, fun L nL => ?_⟩
    refine lc_range (fun i H' => LcOk K (fun out B => out.length ≤ i ∧ I i out B) L G1 H1 B1 H') (lc_start e1.sub nL ⟨Nat.le_refl _, i0⟩) ?_ ?_
    · intro i H' hi hz
      have hz2 := hz
      exact lc_step nL e1.sub (en.mono e1.le) hz (by omega) (d := .int (0 + i)) rfl (fun out B' hI => hs i out B' hi hI)
    · intro H' hz
      exact lc_end e1 nL hz (fun out B' hI => hd out B' hI.1 hI.2) q
end
end AW

set_option linter.all false
set_option maxRecDepth 100000
set_option maxHeartbeats 4000000
namespace AW
open PySem PySem.Spec PyProof.Rows L2
variable [Tbs]
section
variable {K : PySem.W.Frag} {E E' : XK} {e : EW} {ρ : List (Option D)} {B : Int} {k : KD} {κ : KS} {ta tb tf : TE} {t : TA} {pr : Pr}
end
end AW

set_option linter.all false
set_option maxRecDepth 100000
set_option maxHeartbeats 4000000
namespace AW
open PySem PySem.Spec PyProof.Rows L2
variable [Tbs]
section
variable {K : PySem.W.Frag} {E E' : XK} {e : EW} {ρ : List (Option D)} {B : Int} {k : KD} {κ : KS} {ta tb tf : TE} {t : TA} {pr : Pr}
theorem ws_while {c : TT} {ts : TS} (I : Nat → KE') (m : Nat) (h0 : I m ρ B)
    (hs : ∀ n ρ' B', I n ρ' B' → Wt K E e c ρ' B' fun b B1 => (b = true → Ws K E e ts ρ' B1 { nx := fun ρ2 B2 => ∃ n', n' < n ∧ I n' ρ2 B2, rt := κ.rt, bk := κ.nx, ct := fun ρ2 B2 => ∃ n', n' < n ∧ I n' ρ2 B2 }) ∧ (b = false → κ.nx ρ' B1)) : Ws K E e (tWhile c ts) ρ B κ := fun σ H G Dn s en x q => by
  refine ⟨fun n σ' H' => ∃ ρ' B' G', I n ρ' B' ∧ Ext G H B G' H' B' ∧ EnvR K G' B' ρ' σ', ⟨m, ρ, B, G, h0, Ext.refl s, en⟩, ?_⟩
  rintro n σ' H' ⟨ρ', B', G', hI, e1, en1⟩
  refine hs n ρ' B' hI σ' H' G' _ e1.sub en1 (x.ext e1) fun b B2 G2 H2 hb e2 => ?_
  have eA := e1.trans e2
  cases b with
  | true =>
    rw [if_pos rfl]
    refine ⟨fun σ3 H3 => ∃ n', n' < n ∧ ∃ ρ' B' G', I n' ρ' B' ∧ Ext G H B G' H3 B' ∧ EnvR K G' B' ρ' σ3, fun _ _ z => z, ?_⟩
    refine hb.1 rfl σ' H2 G2 _ e2.sub (en1.mono e2.le) (x.ext eA) ⟨?_, q.rt.ext eA, q.nx.ext eA, ?_⟩
    · rintro ρ3 σ3 B3 G3 H3 ⟨n', l, h3⟩ e3 en3
      exact ⟨n', l, ρ3, B3, G3, h3, eA.trans e3, en3⟩
    · rintro ρ3 σ3 B3 G3 H3 ⟨n', l, h3⟩ e3 en3
      exact ⟨n', l, ρ3, B3, G3, h3, eA.trans e3, en3⟩
  | false =>
    rw [if_neg Bool.false_ne_true]
    exact q.nx _ _ _ _ _ (hb.2 rfl) eA (en1.mono e2.le)
theorem ro_inL {a : D} {ds : List D} (oa : pyOk a = true) (ob : pyOkL ds = true) (sa : SeqAt.shaped (py a) = true) (sb : SeqAt.shaped (.list (pyL ds)) = true) (h : k (.bl ((pyL ds).any fun z => PyData.eqv z (py a))) B) : Ro K E e (rInD K) a (.lst ds) B k := fun x y H G Q s r1 r2 _ q =>
  ⟨_, _, Rep.dp s r1 oa, Rep.dp (d := .lst ds) s r2 ob, sa, sb, q (.bl _) _ _ _ _ h (Ext.refl s) rfl⟩
end
end AW

set_option linter.all false
set_option maxRecDepth 100000
set_option maxHeartbeats 4000000
namespace AW
open PySem PySem.Spec PyProof.Rows L2
variable [Tbs]
theorem Wt.imp {K : PySem.W.Frag} {E : XK} {e : EW} {c : TT} {ρ : List (Option D)} {B : Int} {k k' : Bool → Int → Prop} (h : Wt K E e c ρ B k) (f : ∀ b B', k b B' → k' b B') : Wt K E e c ρ B k' :=
  fun σ H G Q s en x q => h σ H G Q s en x fun b B' G' H' hk => q b B' G' H' (f b B' hk)
end AW

set_option linter.all false
set_option maxRecDepth 100000
set_option maxHeartbeats 4000000
namespace AW
open PySem PySem.Spec PyProof.Rows L2 RZ
variable [Tbs]
section
abbrev ItzG (Sq : Hp → Addr → List V → Prop) (a b : Addr) : It :=
  ⟨fun i H => ∃ (xs ys : List V) (x y : V), Sq H a xs ∧ Sq H b ys ∧ xs[i]? = some x ∧ ys[i]? = some y,
    fun i H v H' => ∃ T x y, v = .ref T ∧ H T = none ∧ H' = upd H T (.tup [x, y]) ∧ (∀ xs, Sq H a xs → xs[i]? = some x) ∧ ∀ ys, Sq H b ys → ys[i]? = some y,
    fun i H => ∃ xs ys : List V, Sq H a xs ∧ Sq H b ys ∧ (xs.length ≤ i ∨ ys.length ≤ i)⟩
theorem lc_zip {Sq : Hp → Addr → List V → Prop} {a b : Addr} {xs ys : List V} (hl : xs.length = ys.length) {g : TG} {tt : TT} {te : TE} {vs : List Nat} {σ : L2.St} {H1 : Hp} {D : Addr} {Qd : Hp → Prop} (Pv : Nat → Hp → Prop) (h0 : Pv 0 (upd H1 D (.lst []))) (hq : ∀ i H, i ≤ xs.length → Pv i H → Sq H a xs ∧ Sq H b ys)
    (hs : ∀ i x y T H, xs[i]? = some x → ys[i]? = some y → Pv i H → H T = none → g (.ref T) (wipe σ vs) (upd H T (.tup [x, y])) fun σ2 H2 => wipe σ2 vs = wipe σ vs ∧ tt σ2 H2 fun b H3 =>
      if b = true then te σ2 H3 fun y H4 => ∃ acc, H4 D = some (.lst acc) ∧ acc.length < sizeLine ∧ Pv (i + 1) (upd H4 D (.lst (acc ++ [y]))) else Pv (i + 1) H3) (hd : ∀ H, Pv xs.length H → Qd H) :
    ∃ W : Nat → Nat → Hp → Prop, (∃ m, W 0 m (upd H1 D (.lst []))) ∧ ∀ i m H, W i m H →
      ((ItzG Sq a b).stop i H ∧ Qd H) ∨ ((ItzG Sq a b).go i H ∧ ∃ Nx : Hp → Prop, (∀ H', Nx H' → ∃ m', m' < m ∧ W (i + 1) m' H') ∧ ∀ x H', (ItzG Sq a b).yld i H x H' → g x (wipe σ vs) H' fun σ2 H2 => wipe σ2 vs = wipe σ vs ∧ tt σ2 H2 fun b H3 =>
        if b = true then te σ2 H3 fun y H4 => ∃ acc, H4 D = some (.lst acc) ∧ acc.length < sizeLine ∧ Nx (upd H4 D (.lst (acc ++ [y]))) else Nx H3) := by
  refine ⟨fun i m H => m = xs.length - i ∧ i ≤ xs.length ∧ Pv i H, ⟨xs.length, rfl, Nat.zero_le _, h0⟩, ?_⟩
  rintro i m H ⟨rfl, hi, p⟩
  obtain ⟨qx, qy⟩ := hq i H hi p
  by_cases hlt : i < xs.length
  · have hx : xs[i]? = some xs[i] := List.getElem?_eq_getElem hlt
    have hlt2 : i < ys.length := by omega
    have hy : ys[i]? = some ys[i] := List.getElem?_eq_getElem hlt2
    refine .inr ⟨⟨xs, ys, _, _, qx, qy, hx, hy⟩, Pv (i + 1), fun H' p' => ⟨xs.length - (i + 1), by omega, rfl, hlt, p'⟩, fun v H' y => ?_⟩
    obtain ⟨T, x', y', rfl, hT, rfl, f1, f2⟩ := y
    exact hs i x' y' T H (f1 xs qx) (f2 ys qy) p hT
  · have e : i = xs.length := by omega
    subst e
    exact .inl ⟨⟨xs, ys, qx, qy, Or.inl (Nat.le_refl _)⟩, hd H p⟩
theorem set_two {α : Type} (σ : List α) {i j : Nat} (hij : i ≠ j) (u v w z : α) : ((((((σ.set j z).set i z).set i v).set j w).set j z).set i z) = (σ.set j z).set i z := by
  apply List.ext_getElem?
  intro n
  simp only [List.getElem?_set, List.length_set]
  split <;> split <;> simp_all
variable {K : PySem.W.Frag} {E E' E1 : XK} {e : EW} {ρ : List (Option D)} {B : Int} {k : KD} {κ : KS} {ta tb tl te : TE} {t : TA} {us ts : TS} {pr : Pr} {i j sl : Nat} {ds : List D}
theorem zip_step {f : D → D → D} {xs ys : List D} {n : Nat} {x y : D} (hx : xs[n]? = some x) (hy : ys[n]? = some y) : (List.zipWith f xs ys).take n ++ [f x y] = (List.zipWith f xs ys).take (n + 1) := by
  have hm : (List.zipWith f xs ys)[n]? = some (f x y) := by rw [List.getElem?_zipWith, hx, hy]
  rw [List.take_add_one, hm]
  rfl
theorem lc_zipD {Sq : Hp → Addr → List V → Prop} {a b : Addr} {xs ys : List D} {us ws : List V} {G H G1 H1 : Hp} {B1 : Int} {σ : L2.St} {Q : VK} {f : D → D → D} (hij : i ≠ j) (e1 : Ext G H B G1 H1 B1) (en : EnvR K G1 B1 ρ σ) (q : KOk K k Q G H B)
    (hkeep : ∀ G' H' B', Ext G1 H1 B1 G' H' B' → Sq H' a us ∧ Sq H' b ws) (hr : RepL K G1 B1 xs us) (hw : RepL K G1 B1 ys ws) (hl : xs.length = ys.length) (hz : xs.length < sizeLine)
    (hs : ∀ (n : Nat) (x y : D), xs[n]? = some x → ys[n]? = some y → ∀ k' : KD, k' (f x y) B1 → We K E1 noE te ((((ρ.set j none).set i none).set i (some x)).set j (some y)) B1 k') (hk : k (.lst (List.zipWith f xs ys)) B1) (D : Addr) (nD : H1 D = none) :
    ∃ W : Nat → Nat → Hp → Prop, (∃ m, W 0 m (upd H1 D (.lst []))) ∧ ∀ n m H, W n m H →
      ((ItzG Sq a b).stop n H ∧ Q (.ref D) H) ∨ ((ItzG Sq a b).go n H ∧ ∃ Nx : Hp → Prop, (∀ H', Nx H' → ∃ m', m' < m ∧ W (n + 1) m' H') ∧ ∀ x H', (ItzG Sq a b).yld n H x H' → gTup K 2 (gCons (gName i) (gCons (gName j) gNil)) x (wipe σ [i, j]) H' fun σ2 H2 => wipe σ2 [i, j] = wipe σ [i, j] ∧ tYes σ2 H2 fun b H3 =>
        if b = true then te σ2 H3 fun y H4 => ∃ acc, H4 D = some (.lst acc) ∧ acc.length < sizeLine ∧ Nx (upd H4 D (.lst (acc ++ [y]))) else Nx H3) := by
  have hul : us.length = ws.length := by rw [← hr.length, ← hw.length]; exact hl
  refine lc_zip (Sq := Sq) (xs := us) (ys := ws) hul (fun n H' => LcOk K (fun out B => out = (List.zipWith f xs ys).take n ∧ B = B1) D G1 H1 B1 H') (lc_start e1.sub nD ⟨by simp, rfl⟩) (fun n H' _ z => ?_) ?_ ?_
  · obtain ⟨out, B', G', acc, hI, e2, gL, hL, hr2⟩ := z
    exact hkeep G' H' B' e2
  · intro n v w T H' hv hw2 hP hT
    obtain ⟨x, hx, rx⟩ := hr.get' hv
    obtain ⟨y, hy, ry⟩ := hw.get' hw2
    obtain ⟨out, B', G', acc, ⟨eo, eB⟩, e2, gL, hL, hr2⟩ := hP
    subst eB
    refine ⟨T, [v, w], rfl, SqT.of upd_same, rfl, v, [w], rfl, w, [], rfl, rfl, ?_, ?_⟩
    · show ((((((σ.set j none).set i none).set i (some v)).set j (some w)).set j none).set i none) = (σ.set j none).set i none
      exact set_two σ hij (some v) (some v) (some w) none
    · have hTD : D ≠ T := ne_of_none hL hT
      have e3 : Ext G' H' B' G' (upd H' T (.tup [v, w])) B' := Ext.hid e2.sub hT
      have e23 := e2.trans e3
      have en2 : EnvR K G' B' ((((ρ.set j none).set i none).set i (some x)).set j (some y)) ((((σ.set j none).set i none).set i (some v)).set j (some w)) := EnvR.set (ry.mono e2.le) j (EnvR.set (rx.mono e2.le) i (EnvR.wipe1 i (EnvR.wipe1 j (en.mono e2.le))))
      refine hs n x y hx hy (fun d B2 => d = f x y ∧ B2 = B') ⟨rfl, rfl⟩ _ _ G' _ e3.sub en2 XOk.no fun d u B4 G4 H4 ⟨ed, eB⟩ e4 r4 => ?_
      subst ed eB
      have hL2 : upd H' T (.tup [v, w]) D = some (.lst acc) := by rw [upd_ne hTD]; exact hL
      obtain ⟨z1, z2⟩ := e4.fr D _ hL2 gL ⟨(fun _ z => nomatch z), fun _ z => nomatch z⟩
      have hlen : acc.length < sizeLine := by
        rw [← hr2.length, eo, List.length_take, List.length_zipWith]
        omega
      refine ⟨acc, z1, hlen, out ++ [f x y], B4, G4, acc ++ [u], ⟨by rw [eo]; exact zip_step hx hy, rfl⟩, ?_, z2, upd_same, (hr2.mono e4.le).append ⟨u, [], rfl, r4, rfl⟩⟩
      have eA := e23.trans e4
      refine ⟨eA.le, fun a o z => ?_, fun a o z n t => ?_⟩
      · have : a ≠ D := fun q => by rw [q, z2] at z; cases z
        rw [upd_ne this]; exact eA.sub _ _ z
      · have : a ≠ D := ne_of_none z nD
        rw [upd_ne this]
        exact eA.fr _ _ z n t
  · intro H' hz2
    refine lc_end e1 nD hz2 (fun out B' hI => ?_) q
    obtain ⟨eo, eB⟩ := hI
    subst eB
    have : (List.zipWith f xs ys).take us.length = List.zipWith f xs ys := List.take_of_length_le (by rw [List.length_zipWith, ← hr.length]; omega)
    rw [eo, this]
    exact hk
/-- [f(x, y) for x, y in zip(tuple, tuple)] -/
theorem we_lc_zipT (hij : i ≠ j) (h : Wa K E e t ρ B fun as B1 => ∃ xs ys : List D, as = [.tup xs, .tup ys] ∧ xs.length = ys.length ∧ xs.length < sizeLine ∧ ∃ f : D → D → D, (∀ (n : Nat) (x y : D), xs[n]? = some x → ys[n]? = some y → ∀ k' : KD, k' (f x y) B1 → We K E1 noE te ((((ρ.set j none).set i none).set i (some x)).set j (some y)) B1 k') ∧ k (.lst (List.zipWith f xs ys)) B1) :
    We K E e (tLc (iZipA K t) (gTup K 2 (gCons (gName i) (gCons (gName j) gNil))) tYes te [i, j]) ρ B k := fun σ H G Q s en x q =>
  h σ H G _ s en x fun as vs B1 G1 H1 ⟨xs, ys, ed, hl, hz, f, hs, hk⟩ e1 r1 => by
    subst ed
    obtain ⟨_, _, rfl, ⟨a, us, rfl, ha, hr⟩, _, _, rfl, ⟨b, ws, rfl, hb, hw⟩, rfl⟩ := r1
    have kp : ∀ G' H' B', Ext G1 H1 B1 G' H' B' → SqT K H' a us ∧ SqT K H' b ws := fun G' H' B' e2 => ⟨(Le.of_sub (B := B) (B' := B) e2.sub (Int.le_refl _)).seqT (e2.le.seqT ha), (Le.of_sub (B := B) (B' := B) e2.sub (Int.le_refl _)).seqT (e2.le.seqT hb)⟩
    obtain ⟨k1, k2⟩ := kp _ _ _ (Ext.refl e1.sub)
    exact ⟨a, b, us, ws, rfl, .inr ⟨k1, k2, fun D nD => lc_zipD (Sq := SqT K) hij e1 (en.mono e1.le) q kp hr hw hl hz hs hk D nD⟩⟩
/-- tuple(list) -/
theorem we_tupleL (h : Wa K E e t ρ B fun ds B1 => ∃ xs : List D, ds = [.lst xs] ∧ k (.tup xs) B1) :
    We K E e (tCB (fun xs H Q => ∃ p ys, xs = [.ref p] ∧ ((SqL K H p ys ∧ ∀ l, H l = none → Q (.ref l) (upd H l (.tup ys))) ∨ (SqT K H p ys ∧ Q (.ref p) H))) t) ρ B k :=
  we_cb fun σ H G Q s en x q => h σ H G Q s en x fun ds vs B1 G1 H1 ⟨xs, ed, h1⟩ e1 r1 => q ds vs B1 G1 H1 (fun ws H2 G2 Q2 s2 r2 q2 => by
    subst ed
    obtain ⟨v, _, rfl, ⟨a, us, rfl, ha, hr⟩, rfl⟩ := r2
    exact ⟨a, us, rfl, .inl ⟨SqL.of (s2 _ _ ha), fun l nl => q2 _ _ _ _ _ h1 (Ext.new s2 nl) ⟨l, us, rfl, SqT.of upd_same, hr.mono (Ext.new (B := B1) s2 nl).le⟩⟩⟩) e1 r1
end
end AW

set_option linter.all false
set_option maxRecDepth 100000
set_option maxHeartbeats 4000000
namespace AW
open PySem PySem.Spec PyProof.Rows L2 RZ
variable [Tbs]
section
/-- ends of a statement, the owned list's items told -/
structure KO where
  nx : List (Option D) → List D → Int → Prop := fun _ _ _ => False
  rt : KD
  bk : List (Option D) → List D → Int → Prop := fun _ _ _ => False
  ct : List (Option D) → List D → Int → Prop := fun _ _ _ => False
def OOk (K : PySem.W.Frag) (k : List (Option D) → List D → Int → Prop) (Q : L2.St → Hp → Prop) (i : Nat) (p : Addr) (G0 H0 : Hp) (B0 : Int) : Prop := ∀ ρ ds σ B G H vs, k ρ ds B → Ext G0 H0 B0 G H B → EnvR K G B ρ σ → σ[i]? = some (some (.ref p)) → G p = none → H p = some (.lst vs) → RepL K G B ds vs → Q σ H
structure OEnds (K : PySem.W.Frag) (κ : KO) (Dn : Ends) (i : Nat) (p : Addr) (G0 H0 : Hp) (B0 : Int) : Prop where
  nx : OOk K κ.nx Dn.nx i p G0 H0 B0
  rt : KOk K κ.rt Dn.rt G0 H0 B0
  bk : OOk K κ.bk Dn.bk i p G0 H0 B0
  ct : OOk K κ.ct Dn.ct i p G0 H0 B0
/-- a statement while the list at slot i is owned: its items are ds -/
def Wso (K : PySem.W.Frag) (E : XK) (e : EW) (t : TS) (ρ : List (Option D)) (B : Int) (i : Nat) (ds : List D) (κ : KO) : Prop :=
  ∀ σ H G Dn G0 H0 B0 p vs, Sub G H → EnvR K G B ρ σ → σ[i]? = some (some (.ref p)) → H0 p = none → G p = none → H p = some (.lst vs) → RepL K G B ds vs → Ext G0 H0 B0 G H B → XOk K E e G0 H0 B0 → OEnds K κ Dn i p G0 H0 B0 → t Dn σ H
variable {K : PySem.W.Frag} {E E' E1 : XK} {e : EW} {ρ : List (Option D)} {B : Int} {k : KD} {κ : KS} {κo : KO} {ta tb tl te : TE} {t : TA} {s us ts tbody : TS} {pr : Pr} {i j sl : Nat} {ds : List D} {g : TG}
theorem wo_app (h : We K E e ta ρ B fun d B1 => ds.length < sizeLine ∧ κo.nx ρ (ds ++ [d]) B1) : Wso K E e (tDrop (tBM K "list" rAppend (tVar i) (tCons ta tNil))) ρ B i ds κo := fun σ H G Dn G0 H0 B0 p vs s en hp np gp hL hr ex x q => by
  refine ⟨.ref p, hp, ?_, ?_⟩
  · exact .inl ⟨rfl, vs, SqL.of hL⟩
  · refine h σ H G _ s en (x.ext ex) fun d v B1 G1 H1 ⟨hl, h1⟩ e1 r1 => ?_
    obtain ⟨z1, z2⟩ := e1.fr p _ hL gp ⟨(fun _ z => nomatch z), fun _ z => nomatch z⟩
    refine ⟨p, vs, v, rfl, rfl, z1, by rw [← hr.length]; exact hl, ?_⟩
    have eA := ex.trans e1
    refine q.nx _ _ σ B1 G1 (upd H1 p (.lst (vs ++ [v]))) (vs ++ [v]) h1 ⟨eA.le, fun a o z => ?_, fun a o z n t => ?_⟩ (en.mono e1.le) hp z2 upd_same ((hr.mono e1.le).append ⟨v, [], rfl, r1, rfl⟩)
    · rw [upd_ne (ne_of_none z z2)]; exact e1.sub _ _ z
    · rw [upd_ne (ne_of_none z np)]; exact eA.fr _ _ z n t
theorem set_id {α : Type} {σ : List α} {i : Nat} {a : α} (h : σ[i]? = some a) : σ.set i a = σ := by
  apply List.ext_getElem?
  intro m
  rw [List.getElem?_set]
  by_cases hj : i = m
  · subst hj
    rw [if_pos rfl, h]
    split
    · rfl
    · have := (List.getElem?_eq_some_iff.mp h).1
      omega
  · rw [if_neg hj]
theorem env_own {G : Hp} {σ : L2.St} {p : Addr} (en : EnvR K G B ρ σ) (hp : σ[i]? = some (some (.ref p))) : EnvR K G B (ρ.set i (some (.val (.ref p)))) σ := by
  have := EnvR.set (d := .val (.ref p)) (v := .ref p) rfl i en
  rw [set_id hp] at this
  exact this
theorem env_lose {G : Hp} {σ : L2.St} (en : EnvR K G B ρ σ) {v : V} (hp : σ[i]? = some (some v)) : EnvR K G B (ρ.set i none) σ := by
  have := EnvR.weakAt (x := some v) i en
  rw [set_id hp] at this
  exact this
theorem env_ref {G : Hp} {σ : L2.St} {p : Addr} (en : EnvR K G B ρ σ) (h : ρ[i]? = some (some (.val (.ref p)))) : σ[i]? = some (some (.ref p)) := by
  obtain ⟨v, h1, r⟩ := en.get h
  rw [show v = _ from r] at h1
  exact h1
/-- a statement that does not look at the list -/
theorem wo_ws (h : ∀ p : Addr, Ws K E e s (ρ.set i (some (.val (.ref p)))) B { nx := fun ρ' B' => ρ'[i]? = some (some (.val (.ref p))) ∧ κo.nx (ρ'.set i none) ds B', rt := κo.rt, bk := fun ρ' B' => ρ'[i]? = some (some (.val (.ref p))) ∧ κo.bk (ρ'.set i none) ds B', ct := fun ρ' B' => ρ'[i]? = some (some (.val (.ref p))) ∧ κo.ct (ρ'.set i none) ds B' }) : Wso K E e s ρ B i ds κo := fun σ H G Dn G0 H0 B0 p vs sb en hp np gp hL hr ex x q => by
  have go : ∀ {k : List (Option D) → List D → Int → Prop} {Q : L2.St → Hp → Prop}, OOk K k Q i p G0 H0 B0 → NOk K (fun ρ' B' => ρ'[i]? = some (some (.val (.ref p))) ∧ k (ρ'.set i none) ds B') Q G H B := fun hk ρ' σ' B' G' H' ⟨h1, h2⟩ e1 en1 => by
    have hp' := env_ref en1 h1
    obtain ⟨z1, z2⟩ := e1.fr p _ hL gp ⟨(fun _ z => nomatch z), fun _ z => nomatch z⟩
    exact hk _ _ _ _ _ _ vs h2 (ex.trans e1) (env_lose en1 hp') hp' z2 z1 (hr.mono e1.le)
  exact h p σ H G Dn sb (env_own en hp) (x.ext ex) ⟨go q.nx, q.rt.ext ex, go q.bk, go q.ct⟩
/-- one round of a loop: the target, then the body -/
theorem wo_round {x : D} {G1 H1 : Hp} {B1 : Int} {p : Addr} {v : V} {σ' : L2.St} {G' H' : Hp} {B' : Int} {ρ' : List (Option D)} {ds' : List D} {vs' : List V} {Dn : Ends} {N : L2.St → Hp → Prop} {I2 : List (Option D) → List D → Int → Prop}
    (hs : ∀ p : Addr, Wg K g x (ρ'.set i (some (.val (.ref p)))) B' fun ρ2 B2 => ρ2[i]? = some (some (.val (.ref p))) ∧ Wso K E e tbody (ρ2.set i none) B2 i ds' { nx := I2, rt := κo.rt, bk := κo.nx, ct := I2 })
    (np : H1 p = none) (e2 : Ext G1 H1 B1 G' H' B') (en2 : EnvR K G' B' ρ' σ') (hp' : σ'[i]? = some (some (.ref p))) (gp' : G' p = none) (hL' : H' p = some (.lst vs')) (hr' : RepL K G' B' ds' vs') (rv : Rep K G' B' x v) (xo : XOk K E e G1 H1 B1) (q : OEnds K κo Dn i p G1 H1 B1) (hN : OOk K I2 N i p G1 H1 B1) :
    g v σ' H' fun σ2 H2 => tbody { Dn with nx := N, ct := N, bk := Dn.nx } σ2 H2 :=
  hs p v σ' H' G' _ e2.sub (env_own en2 hp') rv fun ρ2 σ2 B2 G2 H2 ⟨h1, h2⟩ e3 en3 => by
    have hp2 := env_ref en3 h1
    obtain ⟨z1, z2⟩ := e3.fr p _ hL' gp' ⟨(fun _ z => nomatch z), fun _ z => nomatch z⟩
    exact h2 σ2 H2 G2 _ G1 H1 B1 p vs' e3.sub (env_lose en3 hp2) hp2 np z2 z1 (hr'.mono e3.le) (e2.trans e3) xo ⟨hN, q.rt, q.nx, hN⟩
def del (H : Hp) (p : Addr) : Hp := fun b => if b = p then none else H b
theorem delD_same {H : Hp} {p : Addr} : del H p p = none := if_pos rfl
theorem delD_ne {H : Hp} {p b : Addr} (h : b ≠ p) : del H p b = H b := if_neg h
theorem Ext.base {G0 H0 G1 H1 : Hp} {B0 B1 : Int} {p : Addr} (ex : Ext G0 H0 B0 G1 H1 B1) (np : H0 p = none) (gp : G1 p = none) : Ext G0 H0 B0 G1 (del H1 p) B1 := ⟨ex.le, fun a o z => by
  rw [delD_ne (ne_of_none z gp)]; exact ex.sub _ _ z, fun a o z n t => by
  rw [delD_ne (ne_of_none z np)]; exact ex.fr _ _ z n t⟩
theorem Ext.back {G1 H1 : Hp} {B1 : Int} {p : Addr} (s : Sub G1 H1) : Ext G1 (del H1 p) B1 G1 H1 B1 := ⟨Le.of_sub (fun _ _ z => z) (Int.le_refl _), s, fun a o z n t => by
  have : a ≠ p := fun q => by rw [q, delD_same] at z; cases z
  rw [delD_ne this] at z
  exact ⟨z, n⟩⟩
theorem OOk.ext {k : List (Option D) → List D → Int → Prop} {Q : L2.St → Hp → Prop} {p : Addr} {G0 H0 G1 H1 : Hp} {B0 B1 : Int} (h : OOk K k Q i p G0 H0 B0) (ex : Ext G0 H0 B0 G1 H1 B1) : OOk K k Q i p G1 H1 B1 := fun ρ ds σ B G H vs hk e2 => h ρ ds σ B G H vs hk (ex.trans e2)
theorem OEnds.ext {p : Addr} {Dn : Ends} {G0 H0 G1 H1 : Hp} {B0 B1 : Int} (h : OEnds K κo Dn i p G0 H0 B0) (ex : Ext G0 H0 B0 G1 H1 B1) : OEnds K κo Dn i p G1 H1 B1 := ⟨h.nx.ext ex, h.rt.ext ex, h.bk.ext ex, h.ct.ext ex⟩
/-- the rounds' state -/
def OSt (K : PySem.W.Frag) (I : List (Option D) → List D → Int → Prop) (i : Nat) (p : Addr) (G1 H1 : Hp) (B1 : Int) (σ' : L2.St) (H' : Hp) : Prop := ∃ ρ' ds' B' G' vs', I ρ' ds' B' ∧ Ext G1 H1 B1 G' H' B' ∧ EnvR K G' B' ρ' σ' ∧ σ'[i]? = some (some (.ref p)) ∧ G' p = none ∧ H' p = some (.lst vs') ∧ RepL K G' B' ds' vs'
theorem OSt.ok {I : List (Option D) → List D → Int → Prop} {p : Addr} {G1 H1 : Hp} {B1 : Int} : OOk K I (OSt K I i p G1 H1 B1) i p G1 H1 B1 := fun ρ ds σ B G H vs hk e2 en hp gp hL hr => ⟨ρ, ds, B, G, vs, hk, e2, en, hp, gp, hL, hr⟩
theorem wo_for_list (h : We K E e tl ρ B fun d B1 => ∃ xs, d = .lst xs ∧ ∃ I : Nat → List (Option D) → List D → Int → Prop, I 0 ρ ds B1 ∧ (∀ j x ρ' ds' B', xs[j]? = some x → I j ρ' ds' B' → ∀ p : Addr, Wg K g x (ρ'.set i (some (.val (.ref p)))) B' fun ρ2 B2 => ρ2[i]? = some (some (.val (.ref p))) ∧ Wso K E e tbody (ρ2.set i none) B2 i ds' { nx := I (j + 1), rt := κo.rt, bk := κo.nx, ct := I (j + 1) }) ∧ ∀ ρ' ds' B', I xs.length ρ' ds' B' → κo.nx ρ' ds' B') :
    Wso K E e (tFor (iList K tl) g tbody) ρ B i ds κo := fun σ H G Dn G0 H0 B0 p vs sb en hp np gp hL hr ex x q => by
  refine h σ H G _ sb en (x.ext ex) fun d v B1 G1 H1 ⟨xs, ed, I, i0, hs, hd⟩ e1 r1 => ?_
  subst ed
  obtain ⟨a, ws, rfl, ha, hrw⟩ := r1
  obtain ⟨z1, z2⟩ := e1.fr p _ hL gp ⟨(fun _ z => nomatch z), fun _ z => nomatch z⟩
  have eb := (ex.trans e1).base np z2
  refine ⟨a, rfl, ⟨ws, SqL.of (e1.sub _ _ ha)⟩, ?_⟩
  refine for_list (xs := ws) (fun j => OSt K (I j) i p G1 (del H1 p) B1) ⟨ρ, ds, B1, G1, vs, i0, Ext.back e1.sub, en.mono e1.le, hp, z2, z1, hr.mono e1.le⟩ (fun j σ' H' _ ⟨_, _, _, G', _, _, e2, _⟩ => SqL.of (e2.sub _ _ (e2.le.keep _ _ ha nopen_lst))) ?_ ?_
  · rintro j y σ' H' hi ⟨ρ', ds', B', G', vs', hI, e2, en2, hp', gp', hL', hr'⟩
    obtain ⟨dx, hdx, rx⟩ := hrw.get' hi
    exact wo_round (hs j dx ρ' ds' B' hdx hI) delD_same e2 en2 hp' gp' hL' hr' (rx.mono e2.le) (x.ext eb) (q.ext eb) OSt.ok
  · rintro σ' H' ⟨ρ', ds', B', G', vs', hI, e2, en2, hp', gp', hL', hr'⟩
    rw [← hrw.length] at hI
    exact q.nx _ _ _ _ _ _ _ (hd _ _ _ hI) (eb.trans e2) en2 hp' gp' hL' hr'
theorem for_zip {Sq : Hp → Addr → List V → Prop} {a b : Addr} {xs ys : List V} (hl : xs.length = ys.length) {g : TG} {tb : TS} {D : Ends} {σ : L2.St} {H : Hp} (Pv : Nat → L2.St → Hp → Prop) (h0 : Pv 0 σ H) (hq : ∀ i σ H, i ≤ xs.length → Pv i σ H → Sq H a xs ∧ Sq H b ys)
    (hs : ∀ i x y T σ H, xs[i]? = some x → ys[i]? = some y → Pv i σ H → H T = none → g (.ref T) σ (upd H T (.tup [x, y])) fun σ2 H2 => tb { D with nx := Pv (i + 1), ct := Pv (i + 1), bk := D.nx } σ2 H2) (hd : ∀ σ H, Pv xs.length σ H → D.nx σ H) :
    ∃ W : Nat → Nat → L2.St → Hp → Prop, (∃ m, W 0 m σ H) ∧ ∀ i m σ H, W i m σ H →
      ((ItzG Sq a b).stop i H ∧ D.nx σ H) ∨ ((ItzG Sq a b).go i H ∧ ∃ N : L2.St → Hp → Prop, (∀ σ' H', N σ' H' → ∃ m', m' < m ∧ W (i + 1) m' σ' H') ∧ ∀ x H', (ItzG Sq a b).yld i H x H' → g x σ H' fun σ2 H2 => tb { D with nx := N, ct := N, bk := D.nx } σ2 H2) := by
  refine ⟨fun i m σ H => m = xs.length - i ∧ i ≤ xs.length ∧ Pv i σ H, ⟨xs.length, by simp, Nat.zero_le _, h0⟩, ?_⟩
  rintro i m σ H ⟨rfl, hi, p⟩
  obtain ⟨qx, qy⟩ := hq i σ H hi p
  by_cases hlt : i < xs.length
  · have hx : xs[i]? = some xs[i] := List.getElem?_eq_getElem hlt
    have hlt2 : i < ys.length := by omega
    have hy : ys[i]? = some ys[i] := List.getElem?_eq_getElem hlt2
    refine .inr ⟨⟨xs, ys, _, _, qx, qy, hx, hy⟩, Pv (i + 1), fun σ' H' p' => ⟨xs.length - (i + 1), by omega, rfl, hlt, p'⟩, fun v H' y => ?_⟩
    obtain ⟨T, x', y', rfl, hT, rfl, f1, f2⟩ := y
    exact hs i x' y' T σ H (f1 xs qx) (f2 ys qy) p hT
  · have e : i = xs.length := by omega
    subst e
    exact .inl ⟨⟨xs, ys, qx, qy, Or.inl (Nat.le_refl _)⟩, hd σ H p⟩
theorem wg_unl {n : Nat} {gs : TGs} {k : KE'} (hn : ds.length = n) (h : Wgs K gs ds ρ B k) : Wg K (gUnl K n gs) (.lst ds) ρ B k := fun v σ H G Q s en r q => by
  obtain ⟨a, vs, rfl, ha, hr⟩ := r
  exact ⟨a, vs, rfl, SqL.of (s _ _ ha), by rw [← hr.length]; exact hn, h vs σ H G Q s en hr q⟩
theorem un65 {k : Nat} {A : Around} (r : Room k A) : A.units + 65 < cLine := by have := r.un; omega
end
end AW

set_option linter.all false
set_option maxRecDepth 100000
set_option maxHeartbeats 4000000
namespace AW
open PySem PySem.Spec PyProof.Rows L2 RZ
variable [Tbs]
section
variable {K : PySem.W.Frag} {E E' E1 : XK} {e : EW} {ρ : List (Option D)} {B : Int} {k : KD} {κ : KS} {ta tb tl te : TE} {t : TA} {i j : Nat}
theorem map_stepP {α : Type} {f : α → D} {xs : List α} {n : Nat} {x : α} (hx : xs[n]? = some x) : (xs.map f).take n ++ [f x] = (xs.map f).take (n + 1) := by
  rw [List.take_add_one, List.getElem?_map, hx]
  rfl
/-- list(list) -/
theorem we_listL (h : Wa K E e t ρ B fun ds B1 => ∃ xs : List D, ds = [.lst xs] ∧ k (.lst xs) B1) :
    We K E e (tCB (fun xs H Q => ∃ p ys, xs = [.ref p] ∧ (SqL K H p ys ∨ SqT K H p ys) ∧ ∀ l, H l = none → Q (.ref l) (upd H l (.lst ys))) t) ρ B k :=
  we_cb fun σ H G Q s en x q => h σ H G Q s en x fun ds vs B1 G1 H1 ⟨xs, ed, hk⟩ e1 r1 => q ds vs B1 G1 H1 (fun ws H2 G2 Q2 s2 r2 q2 => by
    subst ed
    obtain ⟨v, _, rfl, ⟨a, us, rfl, ha, hr⟩, rfl⟩ := r2
    exact ⟨a, us, rfl, .inl (SqL.of (s2 _ _ ha)), fun l nl => q2 _ _ _ _ _ hk (Ext.new (B := B1) s2 nl) ⟨l, us, rfl, upd_same, hr.mono (Ext.new (B := B1) s2 nl).le⟩⟩) e1 r1
end
end AW

set_option linter.all false
set_option maxRecDepth 100000
set_option maxHeartbeats 4000000
namespace AW
open PySem PySem.Spec PyProof.Rows L2 RZ
variable [Tbs]
section
variable {K : PySem.W.Frag} {E E' E1 : XK} {e : EW} {ρ : List (Option D)} {B : Int} {k : KD} {κ : KS} {ta tb tl te : TE} {tt : TT} {t : TA} {ts : TS} {g : TG} {i j l sl : Nat} {t1 t2 : TI}
theorem ws_orL (h : Ws K E e (tFor t1 g ts) ρ B κ) : Ws K E e (tFor (iOr t1 t2) g ts) ρ B κ := fun σ H G Dn s en x q => .inl (h σ H G Dn s en x q)
theorem ws_orR (h : Ws K E e (tFor t2 g ts) ρ B κ) : Ws K E e (tFor (iOr t1 t2) g ts) ρ B κ := fun σ H G Dn s en x q => .inr (h σ H G Dn s en x q)
/-- a list, or a tuple -/
def seqD (b : Bool) (ds : List D) : D := if b = true then .tup ds else .lst ds
theorem ws_for_seq (b : Bool) (h : We K E e tl ρ B fun d B1 => ∃ ds, d = seqD b ds ∧ ∃ I : Nat → KE', I 0 ρ B1 ∧ (∀ i x ρ' B', ds[i]? = some x → I i ρ' B' → Wg K g x ρ' B' fun ρ2 B2 => Ws K E e ts ρ2 B2 { nx := I (i + 1), rt := κ.rt, bk := κ.nx, ct := I (i + 1) }) ∧ ∀ ρ' B', I ds.length ρ' B' → κ.nx ρ' B') :
    Ws K E e (tFor (iOr (iList K tl) (iTup K tl)) g ts) ρ B κ := by
  cases b with
  | false => exact ws_orL (ws_for_list h)
  | true => exact ws_orR (ws_for_tup h)
theorem filt_step {α : Type} {p : α → Bool} {f : α → D} {xs : List α} {n : Nat} {x : α} (hx : xs[n]? = some x) : ((xs.take (n + 1)).filter p).map f = ((xs.take n).filter p).map f ++ (if p x = true then [f x] else []) := by
  rw [List.take_add_one, hx, List.filter_append, List.map_append]
  congr 1
  cases h : p x <;> simp [h]
theorem we_lc_filtT {α : Type} {f : α → D} (h : We K E e tl ρ B fun d B1 => ∃ (xs : List α) (p : α → Bool), d = .tup (xs.map f) ∧ xs.length < sizeLine ∧ (∀ x ∈ xs, ∀ kb : Bool → Int → Prop, kb (p x) B1 → Wt K E1 noE tt ((ρ.set sl none).set sl (some (f x))) B1 kb) ∧
    (∀ x ∈ xs, ∀ k' : KD, k' (f x) B1 → We K E1 noE te ((ρ.set sl none).set sl (some (f x))) B1 k') ∧ k (.lst ((xs.filter p).map f)) B1) :
    We K E e (tLc (iTup K tl) (gName sl) tt te [sl]) ρ B k := we_lc_tup (E1 := E1) (h.imp fun d B1 ⟨xs, p, ed, hl, ht, hs, hk⟩ => ⟨xs.map f, ed, by rw [List.length_map]; exact hl, fun n out B' => out = ((xs.take n).filter p).map f ∧ B' = B1, ⟨rfl, rfl⟩, fun n y out B' hn ⟨eo, eB⟩ => by
      rw [List.getElem?_map] at hn
      obtain ⟨x, hx, ey⟩ := Option.map_eq_some_iff.mp hn
      subst ey eB
      have hm := List.mem_of_getElem? hx
      refine ht x hm _ ⟨fun hb => hs x hm _ ⟨?_, rfl⟩, fun hb => ⟨?_, rfl⟩⟩
      · rw [eo, filt_step hx, hb, if_pos rfl]
      · rw [eo, filt_step hx, hb, if_neg Bool.false_ne_true, List.append_nil], fun out B' _ ⟨eo, eB⟩ => by
      rw [eo, eB, List.length_map, List.take_length]
      exact hk⟩)
/-- [g(x) for x in xs] with xs told by f -/
theorem we_lc_toldL {α : Type} {f g : α → D} (h : We K E e tl ρ B fun d B1 => ∃ xs : List α, d = .lst (xs.map f) ∧ xs.length < sizeLine ∧ (∀ x ∈ xs, ∀ k' : KD, k' (g x) B1 → We K E1 noE te ((ρ.set sl none).set sl (some (f x))) B1 k') ∧ k (.lst (xs.map g)) B1) :
    We K E e (tLc (iList K tl) (gName sl) tYes te [sl]) ρ B k := we_lc_list (E1 := E1) (h.imp fun d B1 ⟨xs, ed, hl, hs, hk⟩ => ⟨xs.map f, ed, by rw [List.length_map]; exact hl, fun n out B' => out = (xs.map g).take n ∧ B' = B1, ⟨rfl, rfl⟩, fun n y out B' hn ⟨eo, eB⟩ => wt_yes ⟨fun _ => by
      rw [List.getElem?_map] at hn
      obtain ⟨x, hx, ey⟩ := Option.map_eq_some_iff.mp hn
      subst ey eB
      refine hs x (List.mem_of_getElem? hx) _ ⟨?_, rfl⟩
      rw [eo]
      exact map_stepP (f := g) hx, fun h => nomatch h⟩, fun out B' _ ⟨eo, eB⟩ => by
      rw [eo, eB, List.length_map, List.take_of_length_le (by rw [List.length_map]; exact Nat.le_refl _)]
      exact hk⟩)
theorem we_lc_toldT {α : Type} {f g : α → D} (h : We K E e tl ρ B fun d B1 => ∃ xs : List α, d = .tup (xs.map f) ∧ xs.length < sizeLine ∧ (∀ x ∈ xs, ∀ k' : KD, k' (g x) B1 → We K E1 noE te ((ρ.set sl none).set sl (some (f x))) B1 k') ∧ k (.lst (xs.map g)) B1) :
    We K E e (tLc (iTup K tl) (gName sl) tYes te [sl]) ρ B k := we_lc_tup (E1 := E1) (h.imp fun d B1 ⟨xs, ed, hl, hs, hk⟩ => ⟨xs.map f, ed, by rw [List.length_map]; exact hl, fun n out B' => out = (xs.map g).take n ∧ B' = B1, ⟨rfl, rfl⟩, fun n y out B' hn ⟨eo, eB⟩ => wt_yes ⟨fun _ => by
      rw [List.getElem?_map] at hn
      obtain ⟨x, hx, ey⟩ := Option.map_eq_some_iff.mp hn
      subst ey eB
      refine hs x (List.mem_of_getElem? hx) _ ⟨?_, rfl⟩
      rw [eo]
      exact map_stepP (f := g) hx, fun h => nomatch h⟩, fun out B' _ ⟨eo, eB⟩ => by
      rw [eo, eB, List.length_map, List.take_of_length_le (by rw [List.length_map]; exact Nat.le_refl _)]
      exact hk⟩)
end
end AW

set_option linter.all false
set_option maxRecDepth 100000
set_option maxHeartbeats 4000000
namespace AW
open PySem PySem.Spec PyProof.Rows L2 RZ
variable [Tbs]
section
variable {K : PySem.W.Frag} {E E' E1 : XK} {e : EW} {ρ : List (Option D)} {B : Int} {k : KD} {κ : KS} {ta tb tl te : TE} {tt : TT} {t : TA} {ts : TS} {g : TG} {sO sI : Nat}
variable {tlo thi : TO}
theorem ro_ixSq {ds : List D} {i : Int} {d : D} (b : Bool) (h : atI ds i = some d) (hk : k d B) : Ro K E e (rIx K) (seqD b ds) (.int i) B k := fun x y H G Q s r1 r2 ex q => by
  cases b with
  | false => exact .inl (ro_ixL (E := E) (e := e) h hk x y H G Q s r1 r2 ex q)
  | true => exact .inr (.inl (ro_ixT (E := E) (e := e) h hk x y H G Q s r1 r2 ex q))
variable {i j : Nat} {ds : List D} {us tbody : TS} {κo : KO} {tb : TE}
theorem RepL.set {G : Hp} {d : D} {v : V} (rv : Rep K G B d v) : ∀ {ds : List D} {vs : List V} (n : Nat), RepL K G B ds vs → RepL K G B (ds.set n d) (vs.set n v)
  | [], _, _, h => by rw [show _ = _ from h]; exact rfl
  | _ :: _, _, 0, ⟨_, w, rfl, _, h1⟩ => ⟨v, w, rfl, rv, h1⟩
  | _ :: _, _, n + 1, ⟨v0, w, rfl, h0, h1⟩ => ⟨v0, w.set n v, rfl, h0, RepL.set rv n h1⟩
end
end AW

set_option linter.all false
set_option maxRecDepth 100000
set_option maxHeartbeats 4000000
namespace AW
open PySem PySem.Spec PyProof.Rows L2 RZ
variable [Tbs]
section
variable {K : PySem.W.Frag} {E E' E1 : XK} {e : EW} {ρ : List (Option D)} {B : Int} {k : KD} {κ : KS} {κo : KO} {ta tb tl te : TE} {tt : TT} {t : TA} {ts us : TS} {g : TG} {i j sl : Nat} {ds : List D}
/-- x, y = e, [] : the list owned -/
theorem wb_startPar (hij : j ≠ i) (hi : i < ρ.length) (h : We K E e ta ρ B fun d B1 => Wsb K E e us ((ρ.set j (some d)).set i none) B1 i [] κ) : Ws K E e (tSeq (tPar j i (tCons ta (tCons (tLst tNil) tNil))) us) ρ B κ := fun σ H G Dn s en x q =>
  h σ H G _ s en x fun d v B1 G1 H1 hb e1 r1 => ⟨by decide, fun p np => by
    have g : G1 p = none := by
      cases z : G1 p with
      | none => rfl
      | some u => rw [e1.sub _ _ z] at np; cases np
    have ex : Ext G1 H1 B1 G1 (upd H1 p (.lst [])) B1 := Ext.hid e1.sub np
    have en1 : EnvR K G1 B1 ((ρ.set j (some d)).set i none) ((σ.set j (some v)).set i (some (.ref p))) := EnvR.weakAt i (EnvR.set r1 j (en.mono e1.le))
    refine ⟨v, .ref p, rfl, hb _ _ G1 Dn G1 H1 B1 p [] ex.sub en1 ?_ np g upd_same rfl ex (x.ext e1) (q.ext e1)⟩
    rw [List.getElem?_set_self (by rw [List.length_set, ← en.len]; exact hi)]⟩
/-- a state in between -/
theorem wo_cut {s : TS} (J : List (Option D) → List D → Int → Prop) (h1 : Wso K E e s ρ B i ds { κo with nx := J }) (h2 : ∀ ρ' ds' B', J ρ' ds' B' → Wso K E e us ρ' B' i ds' κo) : Wso K E e (tSeq s us) ρ B i ds κo := fun σ H G Dn G0 H0 B0 p vs sb en hp np gp hL hr ex x q =>
  h1 σ H G { Dn with nx := us Dn } G0 H0 B0 p vs sb en hp np gp hL hr ex x ⟨fun ρ' ds' σ' B' G' H' vs' hb ex' en' hp' gp' hL' hr' => h2 _ _ _ hb σ' H' G' Dn G0 H0 B0 p vs' ex'.sub en' hp' np gp' hL' hr' ex' x q, q.rt, q.bk, q.ct⟩
theorem wb_cut {s : TS} (J : List (Option D) → List D → Int → Prop) (h1 : Wso K E e s ρ B i ds { nx := J, rt := κ.rt }) (h2 : ∀ ρ' ds' B', J ρ' ds' B' → Wsb K E e us ρ' B' i ds' κ) : Wsb K E e (tSeq s us) ρ B i ds κ := fun σ H G Dn G0 H0 B0 p vs sb en hp np gp hL hr ex x q =>
  h1 σ H G { Dn with nx := us Dn } G0 H0 B0 p vs sb en hp np gp hL hr ex x ⟨fun ρ' ds' σ' B' G' H' vs' hb ex' en' hp' gp' hL' hr' => h2 _ _ _ hb σ' H' G' Dn G0 H0 B0 p vs' ex'.sub en' hp' np gp' hL' hr' ex' x q, q.rt, fun _ _ _ _ _ _ _ z => z.elim, fun _ _ _ _ _ _ _ z => z.elim⟩
end
end AW

set_option linter.all false
set_option maxRecDepth 100000
set_option maxHeartbeats 4000000
namespace AW
open PySem PySem.Spec PyProof.Rows L2 RZ
variable [Tbs]
section
variable {K : PySem.W.Frag} {E E' E1 : XK} {e : EW} {ρ : List (Option D)} {B : Int} {k : KD} {κ : KS} {κo : KO} {ta tb tl te : TE} {tt : TT} {t : TA} {ts us : TS} {g : TG} {i j sl : Nat} {ds : List D}
theorem ro_ninL {a : D} {ds : List D} (oa : pyOk a = true) (ob : pyOkL ds = true) (sa : SeqAt.shaped (py a) = true) (sb : SeqAt.shaped (.list (pyL ds)) = true) (h : k (.bl (!(pyL ds).any fun z => PyData.eqv z (py a))) B) : Ro K E e (rNinL K) a (.lst ds) B k := fun x y H G Q s r1 r2 _ q =>
  ⟨_, _, Rep.dp s r1 oa, Rep.dp (d := .lst ds) s r2 ob, sa, sb, q (.bl _) _ _ _ _ h (Ext.refl s) rfl⟩
theorem RepL.eraseIdx {G : Hp} : ∀ {ds : List D} {vs : List V} (n : Nat), RepL K G B ds vs → RepL K G B (ds.eraseIdx n) (vs.eraseIdx n)
  | [], _, _, h => by rw [show _ = _ from h]; exact rfl
  | _ :: _, _, 0, ⟨_, w, rfl, _, h1⟩ => h1
  | _ :: _, _, n + 1, ⟨v0, w, rfl, h0, h1⟩ => ⟨v0, w.eraseIdx n, rfl, h0, RepL.eraseIdx n h1⟩
end
end AW

set_option linter.all false
set_option maxRecDepth 100000
set_option maxHeartbeats 4000000
namespace AW
open PySem PySem.Spec PyProof.Rows L2 RZ
variable [Tbs]
section
variable {K : PySem.W.Frag} {E E' E1 : XK} {e : EW} {ρ : List (Option D)} {B : Int} {k : KD} {κ : KS} {κo : KO} {ta tb tl te : TE} {tt : TT} {t : TA} {ts us : TS} {g : TG} {i j sl : Nat} {ds : List D} {pr : Pr}
end
end AW

set_option linter.all false
set_option maxRecDepth 100000
set_option maxHeartbeats 4000000
namespace AW
open PySem PySem.Spec PyProof.Rows L2 RZ LamX
variable [Tbs]
def IsDT (o : HO) : Prop := ∃ kvs, o = .dT kvs ∨ ∃ ob, o = .frz ob (.dT kvs)
/-- what may change of dicts with tuple keys: locked or not -/
structure Lw (f : Bool) (G : Hp) (B : Int) (G' : Hp) (B' : Int) : Prop where
  b : B ≤ B'
  keep : ∀ a o, G a = some o → ¬ IsPen o → ¬ IsDT o → G' a = some o
  pen : ∀ a k l c s r, G a = some (.dK (penE k l c s r)) → ∃ s' r', G' a = some (.dK (penE k l c s' r')) ∧ (0 ≤ s → s ≤ B → 0 ≤ s' ∧ s' ≤ B')
  tb : Tabs Tbs.T G → Tabs Tbs.T G'
  dt : ∀ a kvs, (G a = some (.dT kvs) ∨ ∃ o, G a = some (.frz o (.dT kvs))) → (G' a = some (.dT kvs) ∨ ∃ o, G' a = some (.frz o (.dT kvs)))
  un : f = true → ∀ a kvs, G a = some (.dT kvs) → G' a = some (.dT kvs)
theorem nodt_tup {xs : List V} : ¬ IsDT (.tup xs) := fun ⟨_, h⟩ => by rcases h with h | ⟨_, h⟩ <;> cases h
theorem nodt_lst {xs : List V} : ¬ IsDT (.lst xs) := fun ⟨_, h⟩ => by rcases h with h | ⟨_, h⟩ <;> cases h
theorem nodt_ftup {o : Obj} {xs : List V} : ¬ IsDT (.frz o (.tup xs)) := fun ⟨_, h⟩ => by rcases h with h | ⟨_, h⟩ <;> cases h
theorem nodt_flst {o : Obj} {xs : List V} : ¬ IsDT (.frz o (.lst xs)) := fun ⟨_, h⟩ => by rcases h with h | ⟨_, h⟩ <;> cases h
section
variable {K : PySem.W.Frag} {G G' : Hp} {B B' : Int} {f : Bool}
theorem Lw.seqT {a : Addr} {xs : List V} (l : Lw f G B G' B') (h : SqT K G a xs) : SqT K G' a xs := by
  rcases h with (h | ⟨o, h⟩) | h
  · exact .inl (.inl (l.keep _ _ h nopen_tup nodt_tup))
  · exact .inl (.inr ⟨o, l.keep _ _ h nopen_frz nodt_ftup⟩)
  · exact .inr h
theorem Lw.seqL {a : Addr} {xs : List V} (l : Lw f G B G' B') (h : SqL K G a xs) : SqL K G' a xs := by
  rcases h with (h | ⟨o, h⟩) | h
  · exact .inl (.inl (l.keep _ _ h nopen_lst nodt_lst))
  · exact .inl (.inr ⟨o, l.keep _ _ h nopen_frz nodt_flst⟩)
  · exact .inr h
end
end AW

set_option linter.all false
set_option maxRecDepth 100000
set_option maxHeartbeats 4000000
namespace AW
open PySem PySem.Spec PyProof.Rows L2 RZ LamX
variable [Tbs]
def kD : Key → D
  | .inl i => .int i
  | .inr x => .str x
/-- the same value, as a tuple -/
inductive Wk : D → D → Prop where
  | refl (d : D) : Wk d d
  | kt (ks : List Key) : Wk (.kt ks) (.tup (ks.map kD))
  | lst (kss : List (List Key)) : Wk (.lst (kss.map D.kt)) (.lst (kss.map fun ks => .tup (ks.map kD)))
section
variable {K : PySem.W.Frag} {G H : Hp} {B : Int}
theorem RepL.keys : ∀ ks : List Key, RepL K G B (ks.map kD) (ks.map kV)
  | [] => rfl
  | .inl _ :: r => ⟨_, _, rfl, rfl, RepL.keys r⟩
  | .inr _ :: r => ⟨_, _, rfl, rfl, RepL.keys r⟩
theorem Rep.ktT {ks : List Key} {v : V} (h : Rep K G B (.kt ks) v) : Rep K G B (.tup (ks.map kD)) v := by
  obtain ⟨a, e, h⟩ := h
  exact ⟨a, _, e, SqT.of h, RepL.keys ks⟩
theorem Wk.rep {d d' : D} {v : V} (w : Wk d d') (h : Rep K G B d v) : Rep K G B d' v := by
  cases w with
  | refl => exact h
  | kt ks => exact h.ktT
  | lst kss =>
    obtain ⟨a, vs, e, h, hr⟩ := h
    refine ⟨a, vs, e, h, ?_⟩
    clear h e
    induction kss generalizing vs with
    | nil => exact hr
    | cons ks r ih =>
      obtain ⟨v, w, rfl, h1, h2⟩ := hr
      exact ⟨v, w, rfl, h1.ktT, ih w h2⟩
end
section
variable {K : PySem.W.Frag} {E E' E1 : XK} {e : EW} {ρ : List (Option D)} {B : Int} {k : KD} {κ : KS} {κo : KO} {ta tb tc tl te : TE} {tt : TT} {t : TA} {ts us tbody : TS} {g : TG} {i j sl : Nat} {ds : List D} {pr : Pr}
end
end AW

set_option linter.all false
set_option maxRecDepth 100000
set_option maxHeartbeats 4000000
namespace AW
open PySem PySem.Spec PyProof.Rows L2 RZ LamX
variable [Tbs]
def chS (x : Str) : List Str := x.cps.toList.map fun c => ⟨#[c]⟩
theorem chS_len (x : Str) : (chS x).length = x.cps.size := by unfold chS; rw [List.length_map, Array.length_toList]
section
variable {K : PySem.W.Frag} {E E' E1 : XK} {e : EW} {ρ : List (Option D)} {B : Int} {k : KD} {κ : KS} {κo : KO} {ta tb tc tl te ti : TE} {tt : TT} {t : TA} {ts us tbody : TS} {g : TG} {i j sl : Nat} {ds : List D} {pr : Pr}
end
end AW

set_option linter.all false
set_option maxRecDepth 100000
set_option maxHeartbeats 4000000
namespace AW
open PySem PySem.Spec PyProof.Rows L2 RZ LamX
variable [Tbs]
inductive OC where
  | dict (l : List (List Key × Int))
  | list (es : List D)
  | dictD (l : List (List Key × D))
  | lckD (od : Obj) (l : List (List Key × D)) (vs : List V)
  | obj (C dx : Addr) (fs : List (Str × D))
def kvI (e : List Key × Int) : List Key × V := (e.1, .int e.2)
def Own1 (K : PySem.W.Frag) (G H : Hp) (B : Int) (a : Addr) : OC → Prop
  | .dict l => H a = some (.dT (l.map kvI))
  | .list es => ∃ vs, H a = some (.lst vs) ∧ RepL K G B es vs
  | .dictD l => ∃ vs, H a = some (.dT ((l.map (·.1)).zip vs)) ∧ RepL K G B (l.map (·.2)) vs
  | .lckD od l vs => H a = some (.frz od (.dT ((l.map (·.1)).zip vs))) ∧ RepL K G B (l.map (·.2)) vs
  | .obj C dx fs => ∃ vs, H a = some (.ins C dx ((fs.map (·.1)).zip vs)) ∧ RepL K G B (fs.map (·.2)) vs
def NoH0 (G0 H0 : Hp) (a : Addr) : Prop := ∀ o, H0 a = some o → G0 a = none → NTb o → False
structure Owns (K : PySem.W.Frag) (G0 H0 G H : Hp) (B : Int) (O : List (Addr × OC)) : Prop where
  nd : (O.map (·.1)).Nodup
  at_ : ∀ x ∈ O, NoH0 G0 H0 x.1 ∧ G x.1 = none ∧ Own1 K G H B x.1 x.2
structure KX where
  nx : List (Option D) → List (Addr × OC) → Int → Prop := fun _ _ _ => False
  rt : KD
  bk : List (Option D) → List (Addr × OC) → Int → Prop := fun _ _ _ => False
  ct : List (Option D) → List (Addr × OC) → Int → Prop := fun _ _ _ => False
section
variable {K : PySem.W.Frag}
theorem Own1.ext {G H G1 H1 : Hp} {B B1 : Int} {a : Addr} {o : OC} (h : Own1 K G H B a o) (g : G a = none) (e : Ext G H B G1 H1 B1) : Own1 K G1 H1 B1 a o ∧ G1 a = none := by
  cases o with
  | dict l =>
    obtain ⟨z1, z2⟩ := e.fr a _ h g ⟨(fun _ z => nomatch z), fun _ z => nomatch z⟩
    exact ⟨z1, z2⟩
  | list es =>
    obtain ⟨vs, h, hr⟩ := h
    obtain ⟨z1, z2⟩ := e.fr a _ h g ⟨(fun _ z => nomatch z), fun _ z => nomatch z⟩
    exact ⟨⟨vs, z1, hr.mono e.le⟩, z2⟩
  | dictD l =>
    obtain ⟨vs, h, hr⟩ := h
    obtain ⟨z1, z2⟩ := e.fr a _ h g ⟨(fun _ z => nomatch z), fun _ z => nomatch z⟩
    exact ⟨⟨vs, z1, hr.mono e.le⟩, z2⟩
  | lckD od l vs =>
    obtain ⟨h, hr⟩ := h
    obtain ⟨z1, z2⟩ := e.fr a _ h g ⟨(fun _ z => nomatch z), fun _ z => nomatch z⟩
    exact ⟨⟨z1, hr.mono e.le⟩, z2⟩
  | obj C dx fs =>
    obtain ⟨vs, h, hr⟩ := h
    obtain ⟨z1, z2⟩ := e.fr a _ h g ⟨(fun _ z => nomatch z), fun _ z => nomatch z⟩
    exact ⟨⟨vs, z1, hr.mono e.le⟩, z2⟩
theorem Owns.ext {G0 H0 G H G1 H1 : Hp} {B B1 : Int} {O : List (Addr × OC)} (h : Owns K G0 H0 G H B O) (e : Ext G H B G1 H1 B1) : Owns K G0 H0 G1 H1 B1 O :=
  ⟨h.nd, fun x hx => let ⟨a, b, c⟩ := h.at_ x hx; ⟨a, (c.ext b e).2, (c.ext b e).1⟩⟩
def XEnd (K : PySem.W.Frag) (k : List (Option D) → List (Addr × OC) → Int → Prop) (Q : L2.St → Hp → Prop) (G0 H0 : Hp) (B0 : Int) : Prop := ∀ ρ O σ B G H, k ρ O B → Ext G0 H0 B0 G H B → EnvR K G B ρ σ → Owns K G0 H0 G H B O → Q σ H
structure XEnds (K : PySem.W.Frag) (κ : KX) (Dn : Ends) (G0 H0 : Hp) (B0 : Int) : Prop where
  nx : XEnd K κ.nx Dn.nx G0 H0 B0
  rt : KOk K κ.rt Dn.rt G0 H0 B0
  bk : XEnd K κ.bk Dn.bk G0 H0 B0
  ct : XEnd K κ.ct Dn.ct G0 H0 B0
def WOw (K : PySem.W.Frag) (E : XK) (e : EW) (t : TS) (ρ : List (Option D)) (B : Int) (O : List (Addr × OC)) (κ : KX) : Prop :=
  ∀ σ H G Dn G0 H0 B0, EnvR K G B ρ σ → Owns K G0 H0 G H B O → Ext G0 H0 B0 G H B → XOk K E e G0 H0 B0 → XEnds K κ Dn G0 H0 B0 → t Dn σ H
variable {E E' : XK} {e : EW} {ρ : List (Option D)} {B : Int} {k : KD} {κ : KS} {κx : KX} {ta tb tc tl te ti : TE} {tt : TT} {t : TA} {s ts us tbody : TS} {g : TG} {i j n : Nat} {ds : List D} {O : List (Addr × OC)} {p : Addr} {l : List (List Key × Int)} {es : List D}
theorem wx_own (h : WOw K E e s ρ B [] { nx := fun ρ' _ B' => κ.nx ρ' B', rt := κ.rt }) : Ws K E e s ρ B κ := fun σ H G Dn sb en x q =>
  h σ H G Dn G H B en ⟨List.nodup_nil, fun x hx => nomatch hx⟩ (Ext.refl sb) x ⟨fun ρ' O' σ' B' G' H' hz ex en' _ => q.nx ρ' σ' B' G' H' hz ex en', q.rt, fun _ _ _ _ _ _ z => z.elim, fun _ _ _ _ _ _ z => z.elim⟩
theorem wx_seq (h : WOw K E e s ρ B O { κx with nx := fun ρ' O' B' => WOw K E e us ρ' B' O' κx }) : WOw K E e (tSeq s us) ρ B O κx := fun σ H G Dn G0 H0 B0 en ow ex x q =>
  h σ H G { Dn with nx := us Dn } G0 H0 B0 en ow ex x ⟨fun ρ' O' σ' B' G' H' hz ex' en' ow' => hz σ' H' G' Dn G0 H0 B0 en' ow' ex' x q, q.rt, q.bk, q.ct⟩
theorem wx_cut (J : List (Option D) → List (Addr × OC) → Int → Prop) (h1 : WOw K E e s ρ B O { κx with nx := J }) (h2 : ∀ ρ' O' B', J ρ' O' B' → WOw K E e us ρ' B' O' κx) : WOw K E e (tSeq s us) ρ B O κx :=
  wx_seq fun σ H G Dn G0 H0 B0 en ow ex x q => h1 σ H G Dn G0 H0 B0 en ow ex x ⟨fun ρ' O' σ' B' G' H' hz ex' en' ow' => q.nx ρ' O' σ' B' G' H' (h2 _ _ _ hz) ex' en' ow', q.rt, q.bk, q.ct⟩
theorem wx_next (h : κx.nx ρ O B) : WOw K E e tNext ρ B O κx := fun σ H G Dn G0 H0 B0 en ow ex x q => q.nx _ _ _ _ _ _ h ex en ow
theorem wx_ws (h : Ws K E e s ρ B { nx := fun ρ' B' => κx.nx ρ' O B', rt := κx.rt, bk := fun ρ' B' => κx.bk ρ' O B', ct := fun ρ' B' => κx.ct ρ' O B' }) : WOw K E e s ρ B O κx := fun σ H G Dn G0 H0 B0 en ow ex x q =>
  h σ H G Dn ex.sub en (x.ext ex) ⟨fun ρ' σ' B' G' H' hz e1 en' => q.nx ρ' O σ' B' G' H' hz (ex.trans e1) en' (ow.ext e1), q.rt.ext ex, fun ρ' σ' B' G' H' hz e1 en' => q.bk ρ' O σ' B' G' H' hz (ex.trans e1) en' (ow.ext e1), fun ρ' σ' B' G' H' hz e1 en' => q.ct ρ' O σ' B' G' H' hz (ex.trans e1) en' (ow.ext e1)⟩
theorem none_sub {G H : Hp} {a : Addr} (s : Sub G H) (h : H a = none) : G a = none := by
  cases z : G a with
  | none => rfl
  | some u => rw [s _ _ z] at h; cases h
theorem Own1.some {G H : Hp} {a : Addr} {o : OC} (h : Own1 K G H B a o) : ∃ v, H a = some v := by
  cases o with
  | dict l => exact ⟨_, h⟩
  | list es => obtain ⟨vs, h, _⟩ := h; exact ⟨_, h⟩
  | dictD l => obtain ⟨vs, h, _⟩ := h; exact ⟨_, h⟩
  | lckD od l vs => exact ⟨_, h.1⟩
  | obj C dx fs => obtain ⟨vs, h, _⟩ := h; exact ⟨_, h⟩
theorem noH0 {G0 H0 G H : Hp} {B0 : Int} {a : Addr} (ex : Ext G0 H0 B0 G H B) (ha : H a = none) : NoH0 G0 H0 a := fun o z y nt => by
  rw [(ex.fr a o z y nt).1] at ha; cases ha
/-- a new thing owned -/
theorem owns_cons {G0 H0 G H : Hp} {B0 : Int} {a : Addr} {o : OC} {u : HO} (ow : Owns K G0 H0 G H B O) (ex : Ext G0 H0 B0 G H B) (ha : H a = none) (h1 : Own1 K G (upd H a u) B a o) : Owns K G0 H0 G (upd H a u) B ((a, o) :: O) := by
  refine ⟨List.nodup_cons.mpr ⟨fun hm => ?_, ow.nd⟩, fun x hx => ?_⟩
  · obtain ⟨c, hc, ec⟩ := List.mem_map.mp hm
    obtain ⟨v, hv⟩ := (ow.at_ c hc).2.2.some
    have ec : c.1 = a := ec
    rw [ec, ha] at hv; cases hv
  · rcases List.mem_cons.mp hx with rfl | hx
    · exact ⟨noH0 ex ha, none_sub ex.sub ha, h1⟩
    · obtain ⟨z1, z2, z3⟩ := ow.at_ x hx
      exact ⟨z1, z2, (z3.ext z2 (Ext.hid (B := B) ex.sub ha)).1⟩
theorem Ext.chgN {G0 H0 G H : Hp} {B0 : Int} {a : Addr} {o : HO} (ex : Ext G0 H0 B0 G H B) (np : NoH0 G0 H0 a) (gp : G a = none) : Ext G0 H0 B0 G (upd H a o) B :=
  ⟨ex.le, fun b u z => by rw [upd_ne (ne_of_none z gp)]; exact ex.sub _ _ z, fun b u z n t => by rw [upd_ne (fun w => by subst w; exact np u z n t)]; exact ex.fr _ _ z n t⟩
/-- a thing owned is changed -/
theorem owns_set {G0 H0 G H : Hp} {a : Addr} {o o' : OC} {u : HO} (ow : Owns K G0 H0 G H B O) (hn : O[n]? = some (a, o)) (h1 : Own1 K G (upd H a u) B a o') : Owns K G0 H0 G (upd H a u) B (O.set n (a, o')) := by
  have hl := (List.getElem?_eq_some_iff.mp hn).1
  have he : (O.set n (a, o')).map (·.1) = O.map (·.1) := by
    apply List.ext_getElem?
    intro m
    rw [List.getElem?_map, List.getElem?_map, List.getElem?_set]
    by_cases q : n = m
    · subst q; rw [if_pos rfl, if_pos hl, hn]; rfl
    · rw [if_neg q]
  refine ⟨by rw [he]; exact ow.nd, fun x hx => ?_⟩
  obtain ⟨m, hm⟩ := List.mem_iff_getElem?.mp hx
  rw [List.getElem?_set] at hm
  by_cases q : n = m
  · subst q
    rw [if_pos rfl, if_pos hl] at hm
    cases hm
    obtain ⟨z1, z2, _⟩ := ow.at_ _ (List.mem_of_getElem? hn)
    exact ⟨z1, z2, h1⟩
  · rw [if_neg q] at hm
    obtain ⟨z1, z2, z3⟩ := ow.at_ _ (List.mem_of_getElem? hm)
    have ne : x.1 ≠ a := fun w => by
      have e1 : (O.map (·.1))[n]? = some a := by rw [List.getElem?_map, hn]; rfl
      have e2 : (O.map (·.1))[m]? = some a := by rw [List.getElem?_map, hm, ← w]; rfl
      have hm' := (List.getElem?_eq_some_iff.mp hm).1
      exact q ((List.getElem?_inj (by rw [List.length_map]; exact hl) ow.nd).mp (e1.trans e2.symm))
    refine ⟨z1, z2, ?_⟩
    revert z3
    cases x.2 with
    | dict l => intro z3; show upd H a u x.1 = _; rw [upd_ne ne]; exact z3
    | list es => rintro ⟨vs, z3, z4⟩; exact ⟨vs, by rw [upd_ne ne]; exact z3, z4⟩
    | dictD l => rintro ⟨vs, z3, z4⟩; exact ⟨vs, by rw [upd_ne ne]; exact z3, z4⟩
    | lckD od l vs => rintro ⟨z3, z4⟩; exact ⟨by rw [upd_ne ne]; exact z3, z4⟩
    | obj C dx fs => rintro ⟨vs, z3, z4⟩; exact ⟨vs, by rw [upd_ne ne]; exact z3, z4⟩
/-- a thing owned is told -/
theorem owns_tell {G0 H0 G H : Hp} {B0 : Int} {a : Addr} {o : OC} {u : HO} (ow : Owns K G0 H0 G H B ((a, o) :: O)) (ex : Ext G0 H0 B0 G H B) (hu : H a = some u) : Ext G0 H0 B0 (upd G a u) H B ∧ Owns K G0 H0 (upd G a u) H B O ∧ Le G B (upd G a u) B := by
  obtain ⟨np, gp, _⟩ := ow.at_ (a, o) (List.mem_cons_self ..)
  have np : NoH0 G0 H0 a := np
  have gp : G a = none := gp
  have le : Le G B (upd G a u) B := Le.of_sub (fun b o z => by rw [upd_ne (ne_of_none z gp)]; exact z) (Int.le_refl _)
  refine ⟨⟨ex.le.trans le, fun b o z => ?_, fun b o z n t => ?_⟩, ⟨(List.nodup_cons.mp ow.nd).2, fun x hx => ?_⟩, le⟩
  · by_cases w : b = a
    · subst w; rw [upd_same] at z; cases z; exact hu
    · rw [upd_ne w] at z; exact ex.sub _ _ z
  · rw [upd_ne (fun w => by subst w; exact np o z n t)]; exact ex.fr _ _ z n t
  · obtain ⟨z1, z2, z3⟩ := ow.at_ x (List.mem_cons_of_mem _ hx)
    have ne : x.1 ≠ a := fun w => (List.nodup_cons.mp ow.nd).1 (List.mem_map.mpr ⟨x, hx, w⟩)
    refine ⟨z1, by rw [upd_ne ne]; exact z2, ?_⟩
    revert z3
    cases x.2 with
    | dict l => exact fun z3 => z3
    | list es => rintro ⟨vs, z3, z4⟩; exact ⟨vs, z3, z4.mono le⟩
    | dictD l => rintro ⟨vs, z3, z4⟩; exact ⟨vs, z3, z4.mono le⟩
    | lckD od l vs => rintro ⟨z3, z4⟩; exact ⟨z3, z4.mono le⟩
    | obj C dx fs => rintro ⟨vs, z3, z4⟩; exact ⟨vs, z3, z4.mono le⟩
theorem wx_newlist (hk : ∀ p, κx.nx (ρ.set i (some (.val (.ref p)))) ((p, .list []) :: O) B) : WOw K E e (tAsg (tLst tNil) (gName i)) ρ B O κx := fun σ H G Dn G0 H0 B0 en ow ex x q => by
  refine ⟨by decide, fun p hp => ?_⟩
  exact q.nx _ _ _ B G _ (hk p) (ex.trans (Ext.hid ex.sub hp)) (EnvR.set (d := .val (.ref p)) (v := .ref p) rfl i en) (owns_cons ow ex hp ⟨[], upd_same, rfl⟩)
theorem own_at {G0 H0 G H : Hp} {o : OC} (ow : Owns K G0 H0 G H B O) (hn : O[n]? = some (p, o)) : NoH0 G0 H0 p ∧ G p = none ∧ Own1 K G H B p o := ow.at_ (p, o) (List.mem_of_getElem? hn)
/-- l.append(x) -/
theorem wx_app (hn : O[n]? = some (p, .list es)) (hi : ρ[i]? = some (some (.val (.ref p)))) (h : We K E e ta ρ B fun d B1 => es.length < sizeLine ∧ κx.nx ρ (O.set n (p, .list (es ++ [d]))) B1) : WOw K E e (tDrop (tBM K "list" rAppend (tVar i) (tCons ta tNil))) ρ B O κx := fun σ H G Dn G0 H0 B0 en ow ex x q => by
  obtain ⟨v0, hv0, e0⟩ := en.get hi
  rw [show v0 = _ from e0] at hv0
  obtain ⟨np, gp, vs, hL, hr⟩ := own_at ow hn
  refine ⟨.ref p, hv0, .inl ⟨rfl, vs, SqL.of hL⟩, h σ H G _ ex.sub en (x.ext ex) fun d v B1 G1 H1 ⟨hl, hk⟩ e1 r1 => ?_⟩
  obtain ⟨z1, z2⟩ := e1.fr p _ hL gp ⟨(fun _ z => nomatch z), fun _ z => nomatch z⟩
  refine ⟨p, vs, v, rfl, rfl, z1, by rw [← hr.length]; exact hl, ?_⟩
  exact q.nx _ _ σ B1 G1 _ hk ((ex.trans e1).chgN np z2) (en.mono e1.le) (owns_set (ow.ext e1) hn ⟨_, upd_same, (hr.mono e1.le).append ⟨v, [], rfl, r1, rfl⟩⟩)
theorem putK_new {l : List (List Key × Int)} {c : List Key} {z : Int} (hc : ∀ x ∈ l, x.1 ≠ c) : putK (l.map kvI) c (.int z) = (l ++ [(c, z)]).map kvI := by
  unfold putK
  rw [if_neg (by
    rw [List.any_eq_true]
    rintro ⟨y, hy, hd⟩
    obtain ⟨x, hx, rfl⟩ := List.mem_map.mp hy
    exact hc x hx (of_decide_eq_true hd)), List.map_append]
  rfl
/-- the list owned is told from here on -/
theorem wx_tell (hi : ρ[i]? = some (some (.val (.ref p)))) (h : WOw K E e s (ρ.set i (some (.lst es))) B O κx) : WOw K E e s ρ B ((p, .list es) :: O) κx := fun σ H G Dn G0 H0 B0 en ow ex x q => by
  obtain ⟨v0, hv0, e0⟩ := en.get hi
  rw [show v0 = _ from e0] at hv0
  obtain ⟨np, gp, vs, hL, hr⟩ := own_at (n := 0) ow rfl
  obtain ⟨ex2, ow2, le⟩ := owns_tell ow ex hL
  have en2 := EnvR.set (d := .lst es) (v := .ref p) ⟨p, vs, rfl, upd_same, hr.mono le⟩ i (en.mono le)
  rw [set_id hv0] at en2
  exact h σ H _ Dn G0 H0 B0 en2 ow2 ex2 x q
end
end AW

set_option linter.all false
set_option maxRecDepth 100000
set_option maxHeartbeats 4000000
namespace AW
open PySem PySem.Spec PyProof.Rows L2 RZ LamX
variable [Tbs]
section
variable {K : PySem.W.Frag} {E E' : XK} {e : EW} {ρ : List (Option D)} {B : Int} {k : KD} {κ : KS} {κx : KX} {ta tb tc tl te ti : TE} {tt : TT} {t : TA} {s ts us tbody : TS} {g : TG} {i j n : Nat} {ds : List D} {O : List (Addr × OC)} {p : Addr} {l : List (List Key × Int)} {es : List D}
theorem wx_ifT {c : TT} (h : Wt K E e c ρ B fun b B1 => (b = true → WOw K E e ts ρ B1 O κx) ∧ (b = false → WOw K E e us ρ B1 O κx)) : WOw K E e (tIfS c ts us) ρ B O κx := fun σ H G Dn G0 H0 B0 en ow ex x q =>
  h σ H G _ ex.sub en (x.ext ex) fun b B1 G1 H1 ⟨h1, h2⟩ e1 => by
    cases b with
    | true => rw [if_pos rfl]; exact h1 rfl σ H1 G1 Dn G0 H0 B0 (en.mono e1.le) (ow.ext e1) (ex.trans e1) x q
    | false => rw [if_neg Bool.false_ne_true]; exact h2 rfl σ H1 G1 Dn G0 H0 B0 (en.mono e1.le) (ow.ext e1) (ex.trans e1) x q
abbrev IX := Nat → List (Option D) → List (Addr × OC) → Int → Prop
/-- the state of a loop -/
def PX (K : PySem.W.Frag) (I : IX) (G0 H0 : Hp) (B0 : Int) (n : Nat) (σ : L2.St) (H : Hp) : Prop := ∃ ρ' O' B' G', I n ρ' O' B' ∧ Ext G0 H0 B0 G' H B' ∧ EnvR K G' B' ρ' σ ∧ Owns K G0 H0 G' H B' O'
theorem px_step {I : IX} {G0 H0 : Hp} {B0 : Int} {Dn : Ends} {m : Nat} {d : D} {v : V} {σ : L2.St} {H : Hp} {ρ' : List (Option D)} {O' : List (Addr × OC)} {B' : Int} {G' : Hp} (hI : I m ρ' O' B') (e0 : Ext G0 H0 B0 G' H B') (en : EnvR K G' B' ρ' σ) (ow : Owns K G0 H0 G' H B' O') (rv : Rep K G' B' d v)
    (x : XOk K E e G0 H0 B0) (q : XEnds K κx Dn G0 H0 B0) (hs : Wg K g d ρ' B' fun ρ2 B2 => WOw K E e tbody ρ2 B2 O' { nx := I (m + 1), rt := κx.rt, bk := κx.nx, ct := I (m + 1) }) :
    g v σ H fun σ2 H2 => tbody { Dn with nx := PX K I G0 H0 B0 (m + 1), ct := PX K I G0 H0 B0 (m + 1), bk := Dn.nx } σ2 H2 := by
  refine hs v σ H G' _ e0.sub en rv fun ρ2 σ2 B2 G2 H2 h2 e3 en3 => ?_
  exact h2 σ2 H2 G2 _ G0 H0 B0 en3 (ow.ext e3) (e0.trans e3) x ⟨fun ρ3 O3 σ3 B3 G3 H3 h3 e4 en4 ow4 => ⟨ρ3, O3, B3, G3, h3, e4, en4, ow4⟩, q.rt, q.nx, fun ρ3 O3 σ3 B3 G3 H3 h3 e4 en4 ow4 => ⟨ρ3, O3, B3, G3, h3, e4, en4, ow4⟩⟩
theorem wx_for_range1 (h : Wa K E e t ρ B fun as B1 => ∃ m : Int, as = [.int m] ∧ -(2 ^ 62) ≤ m ∧ m < 2 ^ 62 ∧ ∃ I : IX, I 0 ρ O B1 ∧ (∀ n ρ' O' B', n < m.toNat → I n ρ' O' B' → Wg K g (.int (0 + n)) ρ' B' fun ρ2 B2 => WOw K E e tbody ρ2 B2 O' { nx := I (n + 1), rt := κx.rt, bk := κx.nx, ct := I (n + 1) }) ∧ ∀ ρ' O' B', I m.toNat ρ' O' B' → κx.nx ρ' O' B') :
    WOw K E e (tFor (iRng1 t) g tbody) ρ B O κx := fun σ H G Dn G0 H0 B0 en ow ex x q =>
  h σ H G _ ex.sub en (x.ext ex) fun as vs B1 G1 H1 ⟨m, ed, m0, m1, I, i0, hs, hd⟩ e1 r1 => by
    subst ed
    obtain ⟨v, _, rfl, rv, rfl⟩ := r1
    rw [show v = _ from rv]
    refine ⟨m, rfl, m0, m1, for_it walk_range (PX K I G0 H0 B0) ⟨ρ, O, B1, G1, i0, ex.trans e1, en.mono e1.le, ow.ext e1⟩ (fun _ _ _ _ _ => trivial) ?_ ?_⟩
    · rintro n y σ' H' H'' hn ⟨ρ', O', B', G', hI, e0, en2, ow2⟩ ⟨eH, ey⟩
      subst eH ey
      exact px_step (d := .int (0 + n)) hI e0 en2 ow2 rfl x q (hs n ρ' O' B' hn hI)
    · rintro σ' H' ⟨ρ', O', B', G', hI, e0, en2, ow2⟩
      exact q.nx _ _ _ _ _ _ (hd _ _ _ hI) e0 en2 ow2
/-- for x in l, l a variable's list -/
theorem wx_for_list (hj : ρ[j]? = some (some (.lst ds))) (h : ∀ u : V, ∃ I : IX, I 0 (ρ.set j (some (.at_ u (.lst ds)))) O B ∧ (∀ n ρ' O' B', I n ρ' O' B' → ρ'[j]? = some (some (.at_ u (.lst ds)))) ∧ (∀ n d ρ' O' B', ds[n]? = some d → I n ρ' O' B' → Wg K g d ρ' B' fun ρ2 B2 => WOw K E e tbody ρ2 B2 O' { nx := I (n + 1), rt := κx.rt, bk := κx.nx, ct := I (n + 1) }) ∧ ∀ ρ' O' B', I ds.length ρ' O' B' → κx.nx ρ' O' B') :
    WOw K E e (tFor (iList K (tVar j)) g tbody) ρ B O κx := fun σ H G Dn G0 H0 B0 en ow ex x q => by
  obtain ⟨v0, hv0, a, vs, rfl, ha, hr⟩ := en.get hj
  obtain ⟨I, i0, hI, hs, hd⟩ := h (.ref a)
  have en0 := EnvR.set (d := .at_ (.ref a) (.lst ds)) (v := .ref a) ⟨rfl, a, vs, rfl, ha, hr⟩ j en
  rw [set_id hv0] at en0
  have ha2 : SqL K H a vs := SqL.of (ex.sub _ _ ha)
  refine ⟨.ref a, hv0, a, rfl, ⟨vs, ha2⟩, ?_⟩
  refine ⟨fun i m σ H => m = ds.length - i ∧ i ≤ ds.length ∧ PX K I G0 H0 B0 i σ H, ⟨ds.length, by simp, Nat.zero_le _, ρ.set j (some (.at_ (.ref a) (.lst ds))), O, B, G, i0, ex, en0, ow⟩, ?_⟩
  rintro i m σ' H' ⟨rfl, hi, ρ', O', B', G', hI', e0, en2, ow2⟩
  obtain ⟨v1, hv1, rv1⟩ := en2.get (hI i ρ' O' B' hI')
  obtain ⟨ev, a', vs', ea, ha', hr'⟩ := rv1
  rw [ev] at ea
  cases ea
  have hq : SqL K H' a vs' := SqL.of (e0.sub _ _ ha')
  have hlen := hr'.length
  by_cases hlt : i < ds.length
  · refine .inr ⟨⟨vs', vs'[i], hq, by simp [show i < vs'.length by omega]⟩, PX K I G0 H0 B0 (i + 1), fun σ2 H2 p' => ⟨ds.length - (i + 1), by omega, rfl, hlt, p'⟩, fun y H'' hy => ?_⟩
    obtain ⟨eH, hy⟩ := hy
    subst eH
    obtain ⟨d, hdx, rx⟩ := hr'.get' (hy vs' hq)
    exact px_step hI' e0 en2 ow2 rx x q (hs i d ρ' O' B' hdx hI')
  · have e1 : i = ds.length := by omega
    subst e1
    exact .inl ⟨⟨vs', hq, by omega⟩, q.nx _ _ _ _ _ _ (hd _ _ _ hI') e0 en2 ow2⟩
end
end AW

set_option linter.all false
set_option maxRecDepth 100000
set_option maxHeartbeats 4000000
namespace AW
open PySem PySem.Spec PyProof.Rows L2 RZ LamX
variable [Tbs]
section
variable {K : PySem.W.Frag} {E E' : XK} {e : EW} {ρ : List (Option D)} {B : Int} {k : KD} {κ : KS} {κx : KX} {ta tb tc tl te ti : TE} {tt : TT} {t : TA} {s ts us tbody : TS} {g : TG} {i j n : Nat} {ds : List D} {O : List (Addr × OC)} {p : Addr} {l : List (List Key × D)} {es : List D} {r : R2}
end
end AW

set_option linter.all false
set_option maxRecDepth 100000
set_option maxHeartbeats 4000000
namespace AW
open PySem PySem.Spec PyProof.Rows L2 RZ LamX
variable [Tbs]
def rgI (a b : Int) : List Int := (List.range (b - a).toNat).map fun i => a + (i : Nat)
section
variable {K : PySem.W.Frag} {E E' E1 : XK} {e : EW} {ρ : List (Option D)} {B : Int} {k : KD} {ta tb tc : TE} {t : TA} {r r' : R2}
theorem RepL.intsV {G : Hp} : ∀ (ns : List Int) {vs : List V}, RepL K G B (ns.map D.int) vs → vs = ns.map V.int
  | [], _, h => h
  | z :: r, _, ⟨v, w, e, h1, h2⟩ => by rw [e, show v = _ from h1, RepL.intsV r h2]; rfl
theorem we_listRg2 (h : We K E e ta ρ B fun d1 B1 => We K E e tb ρ B1 fun d2 B2 => ∃ i j : Int, d1 = .int i ∧ d2 = .int j ∧ RgOk i j ∧ k (.lst ((rgI i j).map D.int)) B2) : We K E e (tLstRg (tRg2 ta tb)) ρ B k := fun σ H G Q s en x q =>
  h σ H G _ s en x fun d1 v1 B1 G1 H1 h1 e1 r1 => h1 σ H1 G1 _ e1.sub (en.mono e1.le) (x.ext e1) fun d2 v2 B2 G2 H2 ⟨i, j, ed1, ed2, ok, hk⟩ e2 r2 => by
    subst ed1 ed2
    refine ⟨i, j, r1, r2, ok, fun p hp => ?_⟩
    have ev : rgV i j = (rgI i j).map V.int := by unfold rgV rgI; rw [List.map_map]; rfl
    rw [ev]
    exact q _ _ _ _ _ hk ((e1.trans e2).trans (Ext.new (e1.trans e2).sub hp)) ⟨p, _, rfl, upd_same, RepL.ints _⟩
/-- a op b op' c -/
theorem we_chain (h : We K E e ta ρ B fun d1 B1 => We K E e tb ρ B1 fun d2 B2 => Ro K E e r d1 d2 B2 fun z B3 => ∃ b, z = .bl b ∧ (b = true → We K E e tc ρ B3 fun d3 B4 => Ro K E e r' d2 d3 B4 k) ∧ (b = false → k (.bl false) B3)) : We K E e (tChain r r' ta tb tc) ρ B k := fun σ H G Q s en x q =>
  h σ H G _ s en x fun d1 v1 B1 G1 H1 h1 e1 r1 => h1 σ H1 G1 _ e1.sub (en.mono e1.le) (x.ext e1) fun d2 v2 B2 G2 H2 h2 e2 r2 =>
    h2 v1 v2 H2 G2 _ e2.sub (r1.mono e2.le) r2 (x.ext (e1.trans e2)) fun z w B3 G3 H3 ⟨b, ez, ht, hf⟩ e3 r3 => by
      subst ez
      refine ⟨b, r3, ?_⟩
      cases b with
      | true =>
        rw [if_pos rfl]
        exact ht rfl σ H3 G3 _ e3.sub (en.mono (e1.trans (e2.trans e3)).le) (x.ext (e1.trans (e2.trans e3))) fun d3 v3 B4 G4 H4 h4 e4 r4 => h4 v2 v3 H4 G4 Q e4.sub (r2.mono (e3.trans e4).le) r4 (x.ext (e1.trans (e2.trans (e3.trans e4)))) (q.ext (e1.trans (e2.trans (e3.trans e4))))
      | false =>
        rw [if_neg Bool.false_ne_true]
        exact q _ _ _ _ _ (hf rfl) (e1.trans (e2.trans e3)) rfl
end
end AW

set_option linter.all false
set_option maxRecDepth 100000
set_option maxHeartbeats 4000000
namespace AW
open PySem PySem.Spec PyProof.Rows L2 RZ LamX
variable [Tbs]
section
variable {K : PySem.W.Frag}
variable {E E' : XK} {e : EW} {ρ : List (Option D)} {B : Int} {k : KD} {κ : KS} {κx : KX} {ta tb tc tl te ti : TE} {tt : TT} {t : TA} {s ts us tbody : TS} {g : TG} {i j n : Nat} {ds : List D} {O : List (Addr × OC)} {p : Addr} {l : List (List Key × Int)} {es : List D}
theorem ext_tellN {G0 H0 G H : Hp} {B0 B' : Int} {a : Addr} {u : HO} (ex : Ext G0 H0 B0 G H B') (np : NoH0 G0 H0 a) (gp : G a = none) (hu : H a = some u) : Ext G0 H0 B0 (upd G a u) H B' ∧ Le G B' (upd G a u) B' := by
  have le : Le G B' (upd G a u) B' := Le.of_sub (fun b o z => by rw [upd_ne (ne_of_none z gp)]; exact z) (Int.le_refl _)
  refine ⟨⟨ex.le.trans le, fun b o z => ?_, fun b o z n t => ?_⟩, le⟩
  · by_cases w : b = a
    · subst w; rw [upd_same] at z; cases z; exact hu
    · rw [upd_ne w] at z; exact ex.sub _ _ z
  · rw [upd_ne (fun w => by subst w; exact np o z n t)]; exact ex.fr _ _ z n t
theorem own_nt {G H : Hp} {a : Addr} {o : OC} (h : Own1 K G H B a o) : ∃ v, H a = some v ∧ NTb v := by
  cases o with
  | dict l => exact ⟨_, h, (fun _ z => nomatch z), fun _ z => nomatch z⟩
  | list es => obtain ⟨vs, h, _⟩ := h; exact ⟨_, h, (fun _ z => nomatch z), fun _ z => nomatch z⟩
  | dictD l => obtain ⟨vs, h, _⟩ := h; exact ⟨_, h, (fun _ z => nomatch z), fun _ z => nomatch z⟩
  | lckD od l vs => exact ⟨_, h.1, (fun _ z => nomatch z), fun _ z => nomatch z⟩
  | obj C dx fs => obtain ⟨vs, h, _⟩ := h; exact ⟨_, h, (fun _ z => nomatch z), fun _ z => nomatch z⟩
theorem own_mv {G H G' H' : Hp} {B' : Int} {a : Addr} {o : OC} (h : Own1 K G H B a o) (e : H' a = H a) (le : Le G B G' B') : Own1 K G' H' B' a o := by
  cases o with
  | dict l => exact e.trans h
  | list es => obtain ⟨vs, h, h2⟩ := h; exact ⟨vs, e.trans h, h2.mono le⟩
  | dictD l => obtain ⟨vs, h, h2⟩ := h; exact ⟨vs, e.trans h, h2.mono le⟩
  | lckD od l vs => exact ⟨e.trans h.1, h.2.mono le⟩
  | obj C dx fs => obtain ⟨vs, h, h2⟩ := h; exact ⟨vs, e.trans h, h2.mono le⟩
/-- a test that looks at a list owned -/
theorem wx_if_peek {c : TT} (hn : O[n]? = some (p, .list es)) (hi : ρ[i]? = some (some (.val (.ref p)))) (h : Wt K E e c (ρ.set i (some (.lst es))) B fun b B1 => (b = true → WOw K E e ts ρ B1 O κx) ∧ (b = false → WOw K E e us ρ B1 O κx)) : WOw K E e (tIfS c ts us) ρ B O κx := fun σ H G Dn G0 H0 B0 en ow ex x q => by
  obtain ⟨v0, hv0, e0⟩ := en.get hi
  rw [show v0 = _ from e0] at hv0
  obtain ⟨np, gp, vs, hL, hr⟩ := own_at ow hn
  obtain ⟨ex2, le2⟩ := ext_tellN ex np gp hL
  have en2 := EnvR.set (d := .lst es) (v := .ref p) ⟨p, vs, rfl, upd_same, hr.mono le2⟩ i (en.mono le2)
  rw [set_id hv0] at en2
  refine h σ H _ _ ex2.sub en2 (x.ext ex2) fun b B1 G1 H1 ⟨h1, h2⟩ e1 => ?_
  have e01 := ex2.trans e1
  have hp1 : G1 p = some (.lst vs) := e1.le.keep p _ upd_same nopen_lst
  have leG : Le G B (fun a => if a = p then none else G1 a) B1 := by
    refine ⟨e1.le.b, fun a o ha hpn => ?_, fun a k l c s r ha => ?_, fun z => ?_⟩
    · have ne : a ≠ p := ne_of_none ha gp
      show (if a = p then none else G1 a) = _
      rw [if_neg ne]
      exact e1.le.keep a o (by rw [upd_ne ne]; exact ha) hpn
    · have ne : a ≠ p := ne_of_none ha gp
      obtain ⟨s', r', k1, k2⟩ := e1.le.pen a k l c s r (by rw [upd_ne ne]; exact ha)
      refine ⟨s', r', ?_, k2⟩
      show (if a = p then none else G1 a) = _
      rw [if_neg ne]
      exact k1
    · have z1 : Tabs Tbs.T G1 := e1.le.tb (z.ext fun b o hb => by rw [upd_ne (ne_of_none hb gp)]; exact hb)
      intro P hP
      obtain ⟨ps, t1, t2, t3⟩ := z1 P hP
      have ne : P.1 ≠ p := fun w => by rw [w, hp1] at t1; cases t1
      refine ⟨ps, ?_, t2, fun pos cv hc => ?_⟩
      · show (if P.1 = p then none else G1 P.1) = _
        rw [if_neg ne]; exact t1
      · obtain ⟨c, c1, c2⟩ := t3 pos cv hc
        have nc : c ≠ p := fun w => by rw [w, hp1] at c2; cases c2
        refine ⟨c, c1, ?_⟩
        show (if c = p then none else G1 c) = _
        rw [if_neg nc]; exact c2
  have exG : Ext G0 H0 B0 (fun a => if a = p then none else G1 a) H1 B1 := by
    refine ⟨ex.le.trans leG, fun a o ha => ?_, fun a o ha na nt => ?_⟩
    · have ha : (if a = p then none else G1 a) = some o := ha
      split at ha
      · cases ha
      · exact e1.sub _ _ ha
    · obtain ⟨z1, z2⟩ := e01.fr a o ha na nt
      refine ⟨z1, ?_⟩
      show (if a = p then none else G1 a) = none
      rw [z2]
      split <;> rfl
  have owG : Owns K G0 H0 (fun a => if a = p then none else G1 a) H1 B1 O := by
    refine ⟨ow.nd, fun y hy => ?_⟩
    obtain ⟨y1, y2, y3⟩ := ow.at_ y hy
    by_cases w : y.1 = p
    · refine ⟨y1, ?_, own_mv y3 ?_ leG⟩
      · show (if y.1 = p then none else G1 y.1) = none
        rw [if_pos w]
      · rw [w, hL]; exact e1.sub _ _ hp1
    · obtain ⟨o, ho, nt⟩ := own_nt y3
      obtain ⟨z1, z2⟩ := e1.fr y.1 o ho (by rw [upd_ne w]; exact y2) nt
      refine ⟨y1, ?_, own_mv y3 (z1.trans ho.symm) leG⟩
      show (if y.1 = p then none else G1 y.1) = none
      rw [if_neg w]; exact z2
  cases b with
  | true => rw [if_pos rfl]; exact h1 rfl σ H1 _ Dn G0 H0 B0 (en.mono leG) owG exG x q
  | false => rw [if_neg Bool.false_ne_true]; exact h2 rfl σ H1 _ Dn G0 H0 B0 (en.mono leG) owG exG x q
theorem we_varA {u : V} {d : D} (h : ρ[i]? = some (some (.at_ u d))) (hk : k d B) : We K E e (tVar i) ρ B k := We.at (d := d) (fun σ H G s en => by
  obtain ⟨v, hv, e, r⟩ := en.get h
  exact ⟨v, r, fun Q q => ⟨_, hv, q⟩⟩) hk
end
end AW

set_option linter.all false
set_option maxRecDepth 100000
set_option maxHeartbeats 4000000
namespace AW
open PySem PySem.Spec PyProof.Rows L2 RZ LamX
variable [Tbs]
section
variable {K : PySem.W.Frag} {E E' : XK} {e : EW} {ρ : List (Option D)} {B : Int} {k : KD} {κ : KS} {ta tb tc : TE} {t : TA} {pr : Pr} {C : Addr} {kl : KL}
theorem wa_star (h : We K E e ta ρ B fun d B1 => ∃ ds, (d = .lst ds ∨ d = .tup ds) ∧ Wa K E e t ρ B1 fun es B2 => kl (ds ++ es) B2) : Wa K E e (StX.tStar K ta t) ρ B kl := fun σ H G Q s en x q =>
  h σ H G _ s en x fun d v B1 G1 H1 ⟨ds, ed, h1⟩ e1 r1 => by
    have : ∃ p us, v = .ref p ∧ (SqT K H1 p us ∨ SqL K H1 p us) ∧ RepL K G1 B1 ds us := by
      rcases ed with rfl | rfl
      · obtain ⟨p, us, rfl, hp, hr⟩ := r1
        exact ⟨p, us, rfl, .inr (SqL.of (e1.sub _ _ hp)), hr⟩
      · obtain ⟨p, us, rfl, hp, hr⟩ := r1
        exact ⟨p, us, rfl, .inl (hp.elim (fun z => .inl (z.elim (fun y => .inl (e1.sub _ _ y)) fun ⟨o, y⟩ => .inr ⟨o, e1.sub _ _ y⟩)) .inr), hr⟩
    obtain ⟨p, us, rfl, hp, hr⟩ := this
    exact ⟨p, us, rfl, hp, h1 σ H1 G1 _ e1.sub (en.mono e1.le) (x.ext e1) fun es ws B2 G2 H2 h2 e2 r2 => q _ _ _ _ _ h2 (e1.trans e2) ((hr.mono e2.le).append r2)⟩
end
theorem sqt_up {K : PySem.W.Frag} {G H : Hp} {a : Addr} {xs : List V} (s : Sub G H) (h : SqT K G a xs) : SqT K H a xs := h.elim (fun z => .inl (z.elim (fun y => .inl (s _ _ y)) fun ⟨o, y⟩ => .inr ⟨o, s _ _ y⟩)) .inr
section
variable {K : PySem.W.Frag} {E E' : XK} {e : EW} {ρ : List (Option D)} {B : Int} {κx : KX} {tbody : TS} {g : TG} {i j n : Nat} {ds : List D} {O : List (Addr × OC)}
/-- for x in t, t a variable's tuple -/
theorem wx_for_tup (hj : ρ[j]? = some (some (.tup ds))) (h : ∀ u : V, ∃ I : IX, I 0 (ρ.set j (some (.at_ u (.tup ds)))) O B ∧ (∀ n ρ' O' B', I n ρ' O' B' → ρ'[j]? = some (some (.at_ u (.tup ds)))) ∧ (∀ n d ρ' O' B', ds[n]? = some d → I n ρ' O' B' → Wg K g d ρ' B' fun ρ2 B2 => WOw K E e tbody ρ2 B2 O' { nx := I (n + 1), rt := κx.rt, bk := κx.nx, ct := I (n + 1) }) ∧ ∀ ρ' O' B', I ds.length ρ' O' B' → κx.nx ρ' O' B') :
    WOw K E e (tFor (iTup K (tVar j)) g tbody) ρ B O κx := fun σ H G Dn G0 H0 B0 en ow ex x q => by
  obtain ⟨v0, hv0, a, vs, rfl, ha, hr⟩ := en.get hj
  obtain ⟨I, i0, hI, hs, hd⟩ := h (.ref a)
  have en0 := EnvR.set (d := .at_ (.ref a) (.tup ds)) (v := .ref a) ⟨rfl, a, vs, rfl, ha, hr⟩ j en
  rw [set_id hv0] at en0
  have ha2 : SqT K H a vs := sqt_up ex.sub ha
  refine ⟨.ref a, hv0, a, rfl, ⟨vs, ha2⟩, ?_⟩
  refine ⟨fun i m σ H => m = ds.length - i ∧ i ≤ ds.length ∧ PX K I G0 H0 B0 i σ H, ⟨ds.length, by simp, Nat.zero_le _, ρ.set j (some (.at_ (.ref a) (.tup ds))), O, B, G, i0, ex, en0, ow⟩, ?_⟩
  rintro i m σ' H' ⟨rfl, hi, ρ', O', B', G', hI', e0, en2, ow2⟩
  obtain ⟨v1, hv1, rv1⟩ := en2.get (hI i ρ' O' B' hI')
  obtain ⟨ev, a', vs', ea, ha', hr'⟩ := rv1
  rw [ev] at ea
  cases ea
  have hq : SqT K H' a vs' := sqt_up e0.sub ha'
  have hlen := hr'.length
  by_cases hlt : i < ds.length
  · refine .inr ⟨⟨vs', vs'[i], hq, by simp [show i < vs'.length by omega]⟩, PX K I G0 H0 B0 (i + 1), fun σ2 H2 p' => ⟨ds.length - (i + 1), by omega, rfl, hlt, p'⟩, fun y H'' hy => ?_⟩
    obtain ⟨eH, hy⟩ := hy
    subst eH
    obtain ⟨d, hdx, rx⟩ := hr'.get' (hy vs' hq)
    exact px_step hI' e0 en2 ow2 rx x q (hs i d ρ' O' B' hdx hI')
  · have e1 : i = ds.length := by omega
    subst e1
    exact .inl ⟨⟨vs', hq, by omega⟩, q.nx _ _ _ _ _ _ (hd _ _ _ hI') e0 en2 ow2⟩
end
/-- the type that every value of a D has -/
def TyD (K : PySem.W.Frag) (d : D) (t : Value) : Prop := ∀ v G H B, Sub G H → Rep K G B d v → TyX K H v t
theorem tyD_tup {K : PySem.W.Frag} {xs : List D} : TyD K (.tup xs) (.type "tuple") := fun v G H B s r => by
  obtain ⟨a, us, rfl, ha, hr⟩ := r
  have hb := (Le.of_sub (B := B) (B' := B) s (Int.le_refl _)).seqT ha
  rcases hb with (hb | ⟨o, hb⟩) | ⟨o, its, n, hk, hc, _⟩
  · exact .base (.tup hb)
  · exact .fTuple hb
  · exact .kTuple hk hc
section
variable {K : PySem.W.Frag} {E : XK} {e : EW} {ρ : List (Option D)} {B : Int} {k : KD} {ta : TE} {t : Value} {b : Bool} {c1 c2 c3 : String}
/-- isinstance(x, (c1, c2)) -/
theorem we_isiT2 (h : We K E e ta ρ B fun d B1 => TyD K d t ∧ PySem.W.kitAny K t [.type c1, .type c2] = some b ∧ k (.bl b) B1) : We K E e (tCB (rIsiT K) (tCons ta (tCons (tTup (tCons (tC (.ty c1)) (tCons (tC (.ty c2)) tNil))) tNil))) ρ B k := fun σ H G Q s en x q =>
  h σ H G _ s en x fun d v B1 G1 H1 ⟨ht, hb, hk⟩ e1 r1 => ⟨Nat.le_trans (show 2 ≤ 3 from by decide) (by decide : 3 ≤ sizeLine), fun p hp => by
    have e2 := e1.trans (Ext.hid (o := .tup [.ty c1, .ty c2]) e1.sub hp)
    exact ⟨v, p, _, t, _, b, rfl, upd_same, .cons (.ty c1) (.cons (.ty c2) .nil), ht v G1 _ B1 e2.sub r1, hb, q _ _ _ _ _ hk e2 rfl⟩⟩
/-- isinstance(x, c) -/
theorem we_isi1 (h : We K E e ta ρ B fun d B1 => TyD K d t ∧ PySem.W.kitOne K t (.type c1) = some b ∧ k (.bl b) B1) : We K E e (tCB (rIsi K) (tCons ta (tCons (tC (.ty c1)) tNil))) ρ B k := fun σ H G Q s en x q =>
  h σ H G _ s en x fun d v B1 G1 H1 ⟨ht, hb, hk⟩ e1 r1 => ⟨v, _, t, _, b, rfl, .ty c1, ht v G1 _ B1 e1.sub r1, hb, q _ _ _ _ _ hk e1 rfl⟩
/-- isinstance(x, C), C an own class -/
theorem we_isiC {C : Addr} (h : We K E e ta ρ B fun d B1 => TyD K d t ∧ PySem.W.kitOne K t (.ref C) = some b ∧ k (.bl b) B1) : We K E e (tCB (rIsi K) (tCons ta (tCons (tC (.ref C)) tNil))) ρ B k := fun σ H G Q s en x q =>
  h σ H G _ s en x fun d v B1 G1 H1 ⟨ht, hb, hk⟩ e1 r1 => ⟨v, _, t, _, b, rfl, .own C, ht v G1 _ B1 e1.sub r1, hb, q _ _ _ _ _ hk e1 rfl⟩
end
section
variable {K : PySem.W.Frag} {E E' : XK} {e : EW} {ρ : List (Option D)} {B : Int} {κx : KX} {tbody : TS} {g : TG} {i j n : Nat} {ds : List D} {O : List (Addr × OC)} {C : Addr} {f : Str}
end
end AW

set_option linter.all false
set_option maxRecDepth 100000
set_option maxHeartbeats 4000000
namespace AW
open PySem PySem.Spec PyProof.Rows L2 RZ LamX
variable [Tbs]
section
variable {K : PySem.W.Frag} {E E' : XK} {e : EW} {ρ : List (Option D)} {B : Int} {k : KD} {κ : KS} {κx : KX} {ta tb tc tl te ti : TE} {tt : TT} {t : TA} {s ts us tbody : TS} {g : TG} {i j n : Nat} {ds : List D} {O : List (Addr × OC)} {p : Addr} {es : List D}
theorem ro_isB {a b : Bool} (h : k (.bl (decide (a = b))) B) : Ro K E e rIsB (.bl a) (.bl b) B k := fun v w H G Q s r1 r2 x q => by
  rw [show v = _ from r1, show w = _ from r2]
  exact ⟨a, b, rfl, rfl, q _ _ _ _ _ h (Ext.refl s) rfl⟩
end
end AW

set_option linter.all false
set_option maxRecDepth 100000
set_option maxHeartbeats 4000000
namespace AW
open PySem PySem.Spec PyProof.Rows L2 RZ LamX
variable [Tbs]
section
variable {K : PySem.W.Frag} {E E' : XK} {e : EW} {ρ : List (Option D)} {B : Int} {k : KD} {κ : KS} {κx : KX} {ta tb tc tl te ti : TE} {tt : TT} {t : TA} {s ts us tbody : TS} {g : TG} {i j n : Nat} {ds : List D} {O : List (Addr × OC)} {p : Addr} {es : List D}
end
section
variable {K : PySem.W.Frag} {E E' E1 : XK} {e : EW} {ρ : List (Option D)} {B : Int} {k : KD} {κ : KS} {ta tb tl te : TE} {t : TA} {i j : Nat}
end
end AW

set_option linter.all false
set_option maxRecDepth 100000
set_option maxHeartbeats 4000000
namespace AW
open PySem PySem.Spec PyProof.Rows L2 RZ LamX
variable [Tbs]
def rMulS : R2 := fun x y H Q => ∃ z n, x = .str z ∧ y = .int n ∧ MulOk z n ∧ Q (.str (Txt.mul z n)) H
theorem op_mulS {X : Cx} : OpR X (binaryOp .Mult) rMulS := by
  intro pins s σ H x y v u Q I rx ry h
  obtain ⟨z, n, rfl, rfl, hok, q⟩ := h
  obtain ⟨t, rfl⟩ := rx
  obtain ⟨t', rfl⟩ := ry
  exact SB.mul hok fun t1 k => ⟨.str _, H, I.tok _, ⟨_, rfl⟩, q⟩
section
variable {K : PySem.W.Frag} {E E' E1 : XK} {e : EW} {ρ : List (Option D)} {B : Int} {k : KD} {κ : KS} {κx : KX} {ta tb tc tl te ti : TE} {tt : TT} {t : TA} {s ts us tbody : TS} {g g1 g2 : TG} {i j n sl : Nat} {ds : List D} {O : List (Addr × OC)} {p : Addr} {es : List D} {t1 t2 : TI}
theorem ro_mulS {z : Str} {n : Int} (hok : MulOk z n) (h : k (.str (Txt.mul z n)) B) : Ro K E e rMulS (.str z) (.int n) B k := fun x y H G Q s r1 r2 _ q => by
  rw [show x = _ from r1, show y = _ from r2]
  exact ⟨z, n, rfl, rfl, hok, q _ _ _ _ _ h (Ext.refl s) rfl⟩
end
theorem foldl_arr (l : List (Array Nat)) (a : Array Nat) : (l.foldl (· ++ ·) a).toList = a.toList ++ (l.map (·.toList)).flatten := by
  induction l generalizing a with
  | nil => simp
  | cons x r ih => rw [List.foldl_cons, ih]; simp
theorem chS_mul (z : Str) (n : Int) (hn : 0 ≤ n) : chS (Txt.mul z n) = (List.replicate n.toNat (chS z)).flatten := by
  unfold Txt.mul
  by_cases h1 : n < 1
  · rw [if_pos h1, show n.toNat = 0 by omega]; rfl
  · rw [if_neg h1]
    by_cases h2 : (n == 1 || z.length == 0) = true
    · rw [if_pos h2]
      rw [Bool.or_eq_true, beq_iff_eq, beq_iff_eq] at h2
      rcases h2 with h2 | h2
      · rw [h2]; simp
      · have : chS z = [] := List.eq_nil_of_length_eq_zero (by rw [chS_len]; exact h2)
        rw [this]; simp
    · rw [if_neg h2]
      unfold chS
      rw [foldl_arr]
      simp [List.map_replicate, List.map_flatten]
theorem mul_ok {z : Str} {n : Int} (h0 : 0 ≤ n) (h1 : n ≤ 10000) (hz : z.length ≤ 1000) : MulOk z n := by
  refine ⟨?_, fun a b => ?_, fun a b => ?_⟩
  · rw [decide_eq_false (by omega), decide_eq_false (by omega)]; rfl
  · have : (2 ^ 63 - 1 : Int) / 10000 ≤ (2 ^ 63 - 1) / n := by
      refine Int.le_ediv_of_mul_le (by omega) ?_
      calc (2 ^ 63 - 1 : Int) / 10000 * n ≤ (2 ^ 63 - 1) / 10000 * 10000 := Int.mul_le_mul_of_nonneg_left h1 (by decide)
        _ ≤ 2 ^ 63 - 1 := by decide
    have h2 : (1000 : Int) ≤ (2 ^ 63 - 1) / 10000 := by decide
    omega
  · have h3 : z.length * n.toNat ≤ 1000 * 10000 := Nat.mul_le_mul hz (by omega)
    unfold Builtin.Str.tooLong
    simp only [decide_eq_false_iff_not]
    have h4 : (1000 * 10000 : Nat) ≤ sizeLine := by decide
    omega
end AW

set_option linter.all false
set_option maxRecDepth 100000
set_option maxHeartbeats 4000000
namespace AW
open PySem PySem.Spec PyProof.Rows L2 RZ LamX
variable [Tbs]
section
variable {K : PySem.W.Frag} {E E' E1 : XK} {e : EW} {ρ : List (Option D)} {B : Int} {k : KD} {κ : KS} {κx : KX} {ta tb tc tl te ti : TE} {tt : TT} {t : TA} {s ts us tbody : TS} {g g1 g2 : TG} {i j n sl : Nat} {ds : List D} {O : List (Addr × OC)} {p : Addr} {es : List D} {t1 t2 : TI} {pr : Pr}
end
end AW

set_option linter.all false
set_option maxHeartbeats 2000000
namespace AW
open PySem PySem.Spec PyProof.Rows L2
variable [Tbs]
section
variable {P : Program} {w : World} {K : PySem.W.Frag} {mg : Str → Option Value} {base : Heap} {E E1 : XK} {e : EW} {ρ : List (Option D)} {B : Int} {k : KD} {tl te : TE} {tt : TT} {i j : Nat}
end
end AW

set_option linter.all false
set_option maxHeartbeats 2000000
namespace AW
open PySem PySem.Spec PyProof.Rows L2
variable [Tbs]
section
variable {P : Program} {w : World} {K : PySem.W.Frag} {mg : Str → Option Value} {base : Heap} {E E1 : XK} {e : EW} {ρ : List (Option D)} {B : Int} {k : KD} {ti : TE} {i j : Nat}
theorem ro_addS {a b : Str} (hz : a.length + b.length ≤ sizeLine) (h : k (.str (a ++ b)) B) : Ro K E e (fun x y H Q => ∃ i j, x = .str i ∧ y = .str j ∧ i.length + j.length ≤ sizeLine ∧ Q (.str (i ++ j)) H) (.str a) (.str b) B k := fun x y H G Q s r1 r2 _ q =>
  ⟨a, b, r1, r2, hz, q _ _ _ _ _ h (Ext.refl s) rfl⟩
end
end AW

set_option linter.all false
set_option maxHeartbeats 2000000
namespace AW
open PySem PySem.Spec PyProof.Rows L2
variable [Tbs]
section
variable {P : Program} {w : World} {K : PySem.W.Frag} {mg : Str → Option Value} {base : Heap} {E E1 : XK} {e : EW} {ρ : List (Option D)} {B : Int} {k : KD} {κ : KS} {t : TA} {g : TG} {tb tbody : TS}
theorem for_enumT {a : Addr} {xs : List V} {D : Ends} {σ : L2.St} {H : Hp} (Pv : Nat → L2.St → Hp → Prop) (h0 : Pv 0 σ H) (hq : ∀ i σ H, i ≤ xs.length → Pv i σ H → SqT K H a xs)
    (hs : ∀ i x b σ H, xs[i]? = some x → Pv i σ H → H b = none → g (.ref b) σ (upd H b (.tup [.int (i : Nat), x])) fun σ2 H2 => tb { D with nx := Pv (i + 1), ct := Pv (i + 1), bk := D.nx } σ2 H2) (hd : ∀ σ H, Pv xs.length σ H → D.nx σ H) :
    ∃ W : Nat → Nat → L2.St → Hp → Prop, (∃ m, W 0 m σ H) ∧ ∀ i m σ H, W i m σ H →
      ((IteT K a).stop i H ∧ D.nx σ H) ∨ ((IteT K a).go i H ∧ ∃ N : L2.St → Hp → Prop, (∀ σ' H', N σ' H' → ∃ m', m' < m ∧ W (i + 1) m' σ' H') ∧ ∀ x H', (IteT K a).yld i H x H' → g x σ H' fun σ2 H2 => tb { D with nx := N, ct := N, bk := D.nx } σ2 H2) := by
  refine ⟨fun i m σ H => m = xs.length - i ∧ i ≤ xs.length ∧ Pv i σ H, ⟨xs.length, by simp, Nat.zero_le _, h0⟩, ?_⟩
  rintro i m σ H ⟨rfl, hi, p⟩
  have qx := hq i σ H hi p
  by_cases hlt : i < xs.length
  · have hx : xs[i]? = some xs[i] := List.getElem?_eq_getElem hlt
    refine .inr ⟨⟨xs, _, qx, hx⟩, Pv (i + 1), fun σ' H' p' => ⟨xs.length - (i + 1), by omega, rfl, hlt, p'⟩, fun v H' y => ?_⟩
    obtain ⟨b, x', rfl, hb, rfl, f1⟩ := y
    exact hs i x' b σ H (f1 xs qx) p hb
  · have e : i = xs.length := by omega
    subst e
    exact .inl ⟨⟨xs, qx, Nat.le_refl _⟩, hd σ H p⟩
/-- for i, x in enumerate(tuple) -/
theorem ws_for_enumT (h : Wa K E e t ρ B fun as B1 => ∃ xs : List D, as = [.tup xs] ∧ ∃ I : Nat → KE', I 0 ρ B1 ∧ (∀ i x ρ' B', xs[i]? = some x → I i ρ' B' → Wg K g (.tup [.int (i : Nat), x]) ρ' B' fun ρ2 B2 => Ws K E e tbody ρ2 B2 { nx := I (i + 1), rt := κ.rt, bk := κ.nx, ct := I (i + 1) }) ∧ ∀ ρ' B', I xs.length ρ' B' → κ.nx ρ' B') :
    Ws K E e (tFor (iEnumT K t) g tbody) ρ B κ := fun σ H G Dn s en x q =>
  h σ H G _ s en x fun as vs B1 G1 H1 ⟨xs, ed, I, i0, hs, hd⟩ e1 r1 => by
    subst ed
    obtain ⟨_, _, rfl, ⟨a, us, rfl, ha, hr⟩, rfl⟩ := r1
    refine ⟨a, us, rfl, (Le.of_sub (B := B1) (B' := B1) e1.sub (Int.le_refl _)).seqT ha, ?_⟩
    refine for_enumT (xs := us) (fun i σ' H' => ∃ ρ' B' G', I i ρ' B' ∧ Ext G1 H1 B1 G' H' B' ∧ EnvR K G' B' ρ' σ') ⟨ρ, B1, G1, i0, Ext.refl e1.sub, en.mono e1.le⟩ (fun i σ' H' _ ⟨_, _, G', _, e2, _⟩ => (Le.of_sub (B := B1) (B' := B1) e2.sub (Int.le_refl _)).seqT (e2.le.seqT ha)) ?_ ?_
    · rintro i v T σ' H' hi ⟨ρ', B', G', hI, e2, en2⟩ hT
      obtain ⟨dx, hdx, rx⟩ := hr.get' hi
      have e3 := Ext.new (B := B') (o := .tup [.int (i : Nat), v]) e2.sub hT
      refine hs i dx ρ' B' hdx hI (.ref T) σ' _ _ _ e3.sub (en2.mono e3.le) ⟨T, [.int (i : Nat), v], rfl, SqT.of upd_same, .int (i : Nat), [v], rfl, rfl, v, [], rfl, (rx.mono e2.le).mono e3.le, rfl⟩ fun ρ2 σ2 B2 G2 H2 h2 e4 en4 => ?_
      have eA := e1.trans ((e2.trans e3).trans e4)
      exact h2 σ2 H2 G2 _ e4.sub en4 (x.ext eA) ⟨fun ρ3 σ3 B3 G3 H3 h3 e5 en5 => ⟨ρ3, B3, G3, h3, ((e2.trans e3).trans e4).trans e5, en5⟩, q.rt.ext eA, q.nx.ext eA, fun ρ3 σ3 B3 G3 H3 h3 e5 en5 => ⟨ρ3, B3, G3, h3, ((e2.trans e3).trans e4).trans e5, en5⟩⟩
    · rintro σ' H' ⟨ρ', B', G', hI, e2, en2⟩
      rw [← hr.length] at hI
      exact q.nx _ _ _ _ _ (hd _ _ hI) (e1.trans e2) en2
end
end AW

set_option linter.all false
set_option maxHeartbeats 2000000
namespace AW
open PySem PySem.Spec PyProof.Rows L2
variable [Tbs]
section
variable {P : Program} {w : World} {K : PySem.W.Frag} {mg : Str → Option Value} {base : Heap} {E E1 : XK} {e : EW} {ρ : List (Option D)} {B : Int} {k : KD} {ta tb tc ti : TE}
end
end AW

set_option linter.all false
set_option maxHeartbeats 2000000
namespace AW
open PySem PySem.Spec PyProof.Rows L2
variable [Tbs]
section
variable {P : Program} {w : World} {K : PySem.W.Frag} {mg : Str → Option Value} {base : Heap} {E E1 : XK} {e : EW} {ρ : List (Option D)} {B : Int} {k : KD} {ta tb tc ti : TE}
end
end AW

set_option linter.all false
set_option maxHeartbeats 2000000
namespace AW
open PySem PySem.Spec PyProof.Rows L2
variable [Tbs]
section
variable {P : Program} {w : World} {K : PySem.W.Frag} {mg : Str → Option Value} {base : Heap} {E E1 : XK} {e : EW} {ρ : List (Option D)} {B : Int} {k : KD} {κ : KS} {ta tb tc ti : TE} {i : Nat}
end
end AW

set_option linter.all false
set_option maxRecDepth 100000
set_option maxHeartbeats 4000000
namespace AW
open PySem PySem.Spec PyProof.Rows L2 RZ LamX
variable [Tbs]
section
variable {K : PySem.W.Frag}
variable {E E' : XK} {e : EW} {ρ : List (Option D)} {B : Int} {k : KD} {κ : KS} {κx : KX} {ta tb tc tl te ti : TE} {tt : TT} {t : TA} {s ts us tbody : TS} {g : TG} {i j n m sl : Nat} {ds : List D} {O : List (Addr × OC)} {p a : Addr} {es : List D}
end
end AW
namespace AW
open PySem PySem.Spec PyProof.Rows L2 RZ LamX
variable [Tbs]
end AW

set_option linter.all false
set_option maxRecDepth 100000
set_option maxHeartbeats 4000000
namespace AW
open PySem PySem.Spec PyProof.Rows L2 RZ LamX
variable [Tbs]
section
variable {K : PySem.W.Frag} {E E' : XK} {e : EW} {ρ : List (Option D)} {B : Int} {k : KD} {κ : KS} {κx : KX} {ta tb tc td tl te ti : TE} {tt : TT} {t : TA} {s ts us tbody : TS} {g : TG} {i j n m sl : Nat} {ds : List D} {O : List (Addr × OC)} {p a : Addr} {es : List D}
end
end AW

set_option linter.all false
set_option maxRecDepth 100000
set_option maxHeartbeats 4000000
namespace AW
open PySem PySem.Spec PyProof.Rows L2 RZ LamX
variable [Tbs]
section
variable {K : PySem.W.Frag}
variable {E E' : XK} {e : EW} {ρ : List (Option D)} {B : Int} {k : KD} {κ : KS} {κx : KX} {ta tb tc td tl te ti : TE} {tt : TT} {t : TA} {s ts us tbody : TS} {g : TG} {i j n m sl s1 s2 : Nat} {ds : List D} {O : List (Addr × OC)} {p a : Addr} {es : List D} {l : List (List L2.Key × D)}
end
end AW

set_option linter.all false
set_option maxRecDepth 100000
set_option maxHeartbeats 4000000
namespace AW
open PySem PySem.Spec PyProof.Rows L2 RZ LamX
variable [Tbs]
section
variable {K : PySem.W.Frag} {E E' : XK} {e : EW} {ρ : List (Option D)} {B : Int} {k : KD} {κ : KS} {κx : KX} {ta tb tc td tl te ti : TE} {tt : TT} {t : TA} {s ts us tbody : TS} {g : TG} {i j n m sl s1 s2 : Nat} {ds : List D} {O : List (Addr × OC)} {p a : Addr} {es : List D} {l : List (List L2.Key × D)}
end
end AW
namespace AW
open PySem PySem.Spec PyProof.Rows L2 RZ LamX
variable [Tbs]
theorem wx_perm {K : PySem.W.Frag} {E : XK} {e : EW} {ρ : List (Option D)} {B : Int} {κx : KX} {s : TS} {O O' : List (Addr × OC)} (hp : O'.Perm O) (h : WOw K E e s ρ B O' κx) : WOw K E e s ρ B O κx := fun σ H G Dn G0 H0 B0 en ow ex x q =>
  h σ H G Dn G0 H0 B0 en ⟨((hp.map _).nodup_iff).mpr ow.nd, fun y hy => ow.at_ y (hp.mem_iff.mp hy)⟩ ex x q
end AW

set_option linter.all false
set_option maxRecDepth 100000
set_option maxHeartbeats 4000000
namespace AW
open PySem PySem.Spec PyProof.Rows L2 RZ LamX
variable [Tbs]
section
variable {K : PySem.W.Frag} {E E' : XK} {e : EW} {ρ : List (Option D)} {B : Int} {k : KD} {κ : KS} {ta tb tc : TE} {pr : Pr}
/-- == by the own method, any right operand whose type is known -/
theorem ro_eqG {C : Addr} {ns : List Str} {ds : List D} {d2 : D} {t : Value} {g : Bool → Bool} (ty : TyD K d2 t) (hn : PySem.W.notFirst K C t = true) (h : pr [.ins C ns ds, d2] B (fun d B' => ∃ b, d = .bl b ∧ k (.bl (g b)) B') noE) : Ro K E e (rEqO K C (spD K pr) E' g) (.ins C ns ds) d2 B k := fun u v H G Q s r1 r2 _ q => by
  obtain ⟨p, dx, us, rfl, hp, _⟩ := id r1
  refine ⟨p, dx, _, t, rfl, s _ _ hp, ty _ _ _ _ s r2, hn, G, [.ins C ns ds, d2], B, _, noE, s, ⟨_, _, rfl, r1, _, _, rfl, r2, rfl⟩, h, fun d v B' G' H' hz ee rr => ?_, XOk.no⟩
  obtain ⟨b, rfl, hz⟩ := hz
  exact ⟨b, rr, q _ _ _ _ _ hz ee rfl⟩
theorem nf_self (C : Addr) : PySem.W.notFirst K C (.ref C) = true := by unfold PySem.W.notFirst; simp
end
end AW
namespace AW
open PySem PySem.Spec PyProof.Rows L2 RZ LamX
variable [Tbs]
end AW

set_option linter.all false
set_option maxRecDepth 100000
set_option maxHeartbeats 4000000
namespace AW
open PySem PySem.Spec PyProof.Rows L2 RZ LamX
variable [Tbs]
abbrev OwL := List (Addr × OC)
abbrev KW := D → OwL → Int → Prop
abbrev KWL := List D → OwL → Int → Prop
abbrev KWB := Bool → OwL → Int → Prop
def KWOk (K : PySem.W.Frag) (k : KW) (Q : VK) (G : Hp) (B : Int) (G0 H0 : Hp) (B0 : Int) : Prop := ∀ d v O' B' G' H', k d O' B' → Le G B G' B' → Ext G0 H0 B0 G' H' B' → Rep K G' B' d v → Owns K G0 H0 G' H' B' O' → Q v H'
def KWR (K : PySem.W.Frag) (k : KW) (Q : VK) (G0 H0 : Hp) (B0 : Int) : Prop := ∀ d v O' B' G' H', k d O' B' → Ext G0 H0 B0 G' H' B' → Rep K G' B' d v → Owns K G0 H0 G' H' B' O' → Q v H'
/-- an expression that may change what is owned -/
def WeW (K : PySem.W.Frag) (E : XK) (e : EW) (t : TE) (ρ : List (Option D)) (B : Int) (O : OwL) (k : KW) : Prop :=
  ∀ σ H G G0 H0 B0 Q, EnvR K G B ρ σ → Owns K G0 H0 G H B O → Ext G0 H0 B0 G H B → XOk K E e G0 H0 B0 → KWOk K k Q G B G0 H0 B0 → t σ H Q
def WaW (K : PySem.W.Frag) (E : XK) (e : EW) (t : TA) (ρ : List (Option D)) (B : Int) (O : OwL) (k : KWL) : Prop :=
  ∀ σ H G G0 H0 B0 Q, EnvR K G B ρ σ → Owns K G0 H0 G H B O → Ext G0 H0 B0 G H B → XOk K E e G0 H0 B0 →
    (∀ ds vs O' B' G' H', k ds O' B' → Le G B G' B' → Ext G0 H0 B0 G' H' B' → RepL K G' B' ds vs → Owns K G0 H0 G' H' B' O' → Q vs H') → t σ H Q
def WtW (K : PySem.W.Frag) (E : XK) (e : EW) (t : TT) (ρ : List (Option D)) (B : Int) (O : OwL) (k : KWB) : Prop :=
  ∀ σ H G G0 H0 B0 Q, EnvR K G B ρ σ → Owns K G0 H0 G H B O → Ext G0 H0 B0 G H B → XOk K E e G0 H0 B0 →
    (∀ b O' B' G' H', k b O' B' → Le G B G' B' → Ext G0 H0 B0 G' H' B' → Owns K G0 H0 G' H' B' O' → Q b H') → t σ H Q
section
variable {K : PySem.W.Frag} {E E' : XK} {e : EW} {ρ : List (Option D)} {B : Int} {κ : KS} {κx : KX} {ta tb tc tl te : TE} {t : TA} {c : TT} {s ts us tbody : TS} {g : TG} {i j n : Nat} {O : OwL} {p : Addr} {es : List D} {pr : Pr} {k : KW}
theorem wew_we (h : We K E e ta ρ B fun d B1 => k d O B1) : WeW K E e ta ρ B O k := fun σ H G G0 H0 B0 Q en ow ex x q =>
  h σ H G Q ex.sub en (x.ext ex) fun d v B1 G1 H1 hk e1 r1 => q d v O B1 G1 H1 hk e1.le (ex.trans e1) r1 (ow.ext e1)
theorem WeW.imp {k' : KW} (h : WeW K E e ta ρ B O k) (f : ∀ d O' B', k d O' B' → k' d O' B') : WeW K E e ta ρ B O k' := fun σ H G G0 H0 B0 Q en ow ex x q => h σ H G G0 H0 B0 Q en ow ex x fun d v O' B' G' H' hk => q d v O' B' G' H' (f d O' B' hk)
theorem wew_op {r : R2} (h : WeW K E e ta ρ B O fun a O1 B1 => WeW K E e tb ρ B1 O1 fun b O2 B2 => Ro K E e r a b B2 fun d B3 => k d O2 B3) : WeW K E e (tOp r ta tb) ρ B O k := fun σ H G G0 H0 B0 Q en ow ex x q =>
  h σ H G G0 H0 B0 _ en ow ex x fun a v O1 B1 G1 H1 h1 l1 ex1 r1 ow1 => h1 σ H1 G1 G0 H0 B0 _ (en.mono l1) ow1 ex1 x fun b u O2 B2 G2 H2 h2 l2 ex2 r2 ow2 =>
    h2 v u H2 G2 Q ex2.sub (r1.mono l2) r2 (x.ext ex2) fun d w B3 G3 H3 h3 e3 r3 => q d w O2 B3 G3 H3 h3 (l1.trans (l2.trans e3.le)) (ex2.trans e3) r3 (ow2.ext e3)
/-- l[i], l owned, told by its reference -/
theorem wew_ixV (h : WeW K E e ta ρ B O fun d O1 B1 => WeW K E e tb ρ B1 O1 fun c O2 B2 => ∃ (p : Addr) (n : Nat) (es : List D) (z : Int) (d' : D), d = .val (.ref p) ∧ c = .int z ∧ O2[n]? = some (p, OC.list es) ∧ atI es z = some d' ∧ k d' O2 B2) : WeW K E e (tOp (rIxL K) ta tb) ρ B O k := fun σ H G G0 H0 B0 Q en ow ex x q =>
  h σ H G G0 H0 B0 _ en ow ex x fun a v O1 B1 G1 H1 h1 l1 ex1 r1 ow1 => h1 σ H1 G1 G0 H0 B0 _ (en.mono l1) ow1 ex1 x fun b u O2 B2 G2 H2 ⟨p, n, es, z, d', ed, ec, hn, ha, hk⟩ l2 ex2 r2 ow2 => by
    subst ed ec
    obtain ⟨_, _, vs, hL, hr⟩ := own_at ow2 hn
    obtain ⟨w, h1, h2⟩ := hr.ixN ha
    exact ⟨p, vs, z, w, r1, r2, SqL.of hL, h1, q _ _ _ _ _ _ hk (l1.trans l2) ex2 h2 ow2⟩
theorem waw_nil {k : KWL} (h : k [] O B) : WaW K E e tNil ρ B O k := fun σ H G G0 H0 B0 Q en ow ex x q => q _ _ _ _ _ _ h (Le.refl _ _) ex rfl ow
theorem waw_cons {k : KWL} (h : WeW K E e ta ρ B O fun a O1 B1 => WaW K E e t ρ B1 O1 fun ds O2 B2 => k (a :: ds) O2 B2) : WaW K E e (tCons ta t) ρ B O k := fun σ H G G0 H0 B0 Q en ow ex x q =>
  h σ H G G0 H0 B0 _ en ow ex x fun a v O1 B1 G1 H1 h1 l1 ex1 r1 ow1 => h1 σ H1 G1 G0 H0 B0 _ (en.mono l1) ow1 ex1 x fun ds vs O2 B2 G2 H2 h2 l2 ex2 r2 ow2 => q _ _ _ _ _ _ h2 (l1.trans l2) ex2 ⟨v, vs, rfl, r1.mono l2, r2⟩ ow2
theorem wew_callD (h : WaW K E e t ρ B O fun ds O1 B1 => pr ds B1 (fun d B2 => k d O1 B2) noE) : WeW K E e (tCall (spD K pr) [] E' t) ρ B O k := fun σ H G G0 H0 B0 Q en ow ex x q =>
  h σ H G G0 H0 B0 _ en ow ex x fun ds vs O1 B1 G1 H1 h1 l1 ex1 r1 ow1 => by
    show spD K pr (vs ++ []) H1 Q E'
    rw [List.append_nil]
    exact ⟨G1, ds, B1, _, noE, ex1.sub, r1, h1, fun d v B2 G2 H2 hk e2 r2 => q d v O1 B2 G2 H2 hk (l1.trans e2.le) (ex1.trans e2) r2 (ow1.ext e2), XOk.no⟩
theorem wew_callL {f : Addr} {sp : Sp} (hi : ρ[i]? = some (some (.val (.ref f)))) (h : WeW K E e (tCall sp [] E' t) ρ B O k) : WeW K E e (tCallL i f sp [] E' t) ρ B O k := fun σ H G G0 H0 B0 Q en ow ex x q => ⟨by
  obtain ⟨v0, hv0, e0⟩ := en.get hi
  rw [show v0 = _ from e0] at hv0
  exact hv0, h σ H G G0 H0 B0 Q en ow ex x q⟩
theorem wew_orL (h : WeW K E e ta ρ B O k) : WeW K E e (tOr2E ta tb) ρ B O k := fun σ H G G0 H0 B0 Q en ow ex x q => .inl (h σ H G G0 H0 B0 Q en ow ex x q)
theorem wew_orR (h : WeW K E e tb ρ B O k) : WeW K E e (tOr2E ta tb) ρ B O k := fun σ H G G0 H0 B0 Q en ow ex x q => .inr (h σ H G G0 H0 B0 Q en ow ex x q)
theorem wew_methD {C : Addr} {m : Str} (h : WeW K E e ta ρ B O fun d O1 B1 => ∃ ns fs, d = .ins C ns fs ∧ (∀ n ∈ ns, (m == n) = false) ∧ WaW K E e t ρ B1 O1 fun ds O2 B2 => pr (d :: ds) B2 (fun d B3 => k d O2 B3) noE) : WeW K E e (tMeth C m (spD K pr) [] E' ta t) ρ B O k := fun σ H G G0 H0 B0 Q en ow ex x q =>
  h σ H G G0 H0 B0 _ en ow ex x fun d v O1 B1 G1 H1 ⟨ns, fs, ed, nm, h1⟩ l1 ex1 r1 ow1 => by
    subst ed
    obtain ⟨a, dx, vs, rfl, ha, hl, hr⟩ := id r1
    refine ⟨a, dx, _, rfl, ex1.sub _ _ ha, lookup_zip_none nm, ?_⟩
    refine h1 σ H1 G1 G0 H0 B0 _ (en.mono l1) ow1 ex1 x fun ds ws O2 B2 G2 H2 h2 l2 ex2 r2 ow2 => ?_
    show spD K pr (.ref a :: (ws ++ [])) H2 Q E'
    rw [List.append_nil]
    exact ⟨G2, .ins C ns fs :: ds, B2, _, noE, ex2.sub, ⟨_, _, rfl, r1.mono l2, r2⟩, h2, fun d v B3 G3 H3 hk e3 r3 => q d v O2 B3 G3 H3 hk ((l1.trans l2).trans e3.le) (ex2.trans e3) r3 (ow2.ext e3), XOk.no⟩
theorem wew_lenV (h : We K E e ta ρ B fun d B1 => ∃ (p : Addr) (n : Nat) (es : List D), d = .val (.ref p) ∧ O[n]? = some (p, OC.list es) ∧ k (.int es.length) O B1) : WeW K E e (tCB (fun xs H Q => ∃ p ys, xs = [.ref p] ∧ (SqL K H p ys ∨ SqT K H p ys) ∧ Q (.int ys.length) H) (tCons ta tNil)) ρ B O k := fun σ H G G0 H0 B0 Q en ow ex x q =>
  h σ H G _ ex.sub en (x.ext ex) fun d v B1 G1 H1 ⟨p, n, es, ed, hn, hk⟩ e1 r1 => by
    subst ed
    have ow1 := ow.ext e1
    obtain ⟨_, _, vs, hL, hr⟩ := own_at ow1 hn
    refine ⟨p, vs, by rw [show v = _ from r1], .inl (SqL.of hL), ?_⟩
    rw [← hr.length]
    exact q _ _ _ _ _ _ hk e1.le (ex.trans e1) rfl ow1
theorem wew_isN (h : WeW K E e ta ρ B O fun d O1 B1 => k (.bl (isNon d)) O1 B1) : WeW K E e (tIsN ta) ρ B O k := fun σ H G G0 H0 B0 Q en ow ex x q =>
  h σ H G G0 H0 B0 _ en ow ex x fun d v O1 B1 G1 H1 h1 l1 ex1 r1 ow1 => by
    rw [r1.isNon]
    exact q _ _ _ _ _ _ h1 l1 ex1 rfl ow1
abbrev PrW := List D → Int → OwL → KW → Prop
open Classical in
/-- the heap without what is owned -/
noncomputable def hide (O : OwL) (H : Hp) : Hp := fun a => if a ∈ O.map Prod.fst then none else H a
def spW (K : PySem.W.Frag) (pr : PrW) : Sp := fun vs H Q E => ∃ G ds B O k, Sub G H ∧ RepL K G B ds vs ∧ ((O.map Prod.fst).Nodup ∧ ∀ x ∈ O, G x.1 = none ∧ Own1 K G H B x.1 x.2) ∧ pr ds B O k ∧ KWR K k Q G (hide O H) B
theorem spW_len {pr : PrW} {n : Nat} (h : ∀ ds B O k, pr ds B O k → ds.length = n) : ∀ vs H Q E, spW K pr vs H Q E → vs.length = n := fun vs H Q E ⟨G, ds, B, O, k, _, r, _, p, _⟩ => by
  rw [← r.length]
  exact h _ _ _ _ p
theorem hide_in {H : Hp} {a : Addr} (h : a ∈ O.map Prod.fst) : hide O H a = none := by unfold hide; rw [if_pos h]
theorem hide_out {H : Hp} {a : Addr} (h : a ∉ O.map Prod.fst) : hide O H a = H a := by unfold hide; rw [if_neg h]
theorem hide_ext {G H : Hp} (s : Sub G H) (h : ∀ x ∈ O, G x.1 = none) : Ext G (hide O H) B G H B := ⟨Le.refl _ _, s, fun a o z n t => by
  by_cases q : a ∈ O.map Prod.fst
  · rw [hide_in q] at z; cases z
  · rw [hide_out q] at z; exact ⟨z, n⟩⟩
theorem hide_owns {G H : Hp} (h : (O.map Prod.fst).Nodup ∧ ∀ x ∈ O, G x.1 = none ∧ Own1 K G H B x.1 x.2) : Owns K G (hide O H) G H B O := ⟨h.1, fun x hx => ⟨(fun o z _ _ => by
  rw [hide_in (List.mem_map_of_mem hx)] at z
  cases z), h.2 x hx⟩⟩
/-- what a call brought, told to the frame's own beginning -/
theorem ext_back {G0 H0 G H G' H' : Hp} {B0 B' : Int} (ow : Owns K G0 H0 G H B O) (ex : Ext G0 H0 B0 G H B) (e2 : Ext G (hide O H) B G' H' B') : Ext G0 H0 B0 G' H' B' := ⟨ex.le.trans e2.le, e2.sub, fun a o z n t => by
  obtain ⟨z1, z2⟩ := ex.fr a o z n t
  have q : a ∉ O.map Prod.fst := fun q => by
    obtain ⟨x, hx, rfl⟩ := List.mem_map.mp q
    exact (ow.at_ x hx).1 o z n t
  exact e2.fr a o (by rw [hide_out q]; exact z1) z2 t⟩
theorem owns_back {G0 H0 G H G' H' : Hp} {B0 B' : Int} {O' : OwL} (ow : Owns K G0 H0 G H B O) (ex : Ext G0 H0 B0 G H B) (ow2 : Owns K G (hide O H) G' H' B' O') : Owns K G0 H0 G' H' B' O' := ⟨ow2.nd, fun x hx => ⟨fun o z n t => by
  obtain ⟨z1, z2⟩ := ex.fr _ o z n t
  have q : x.1 ∉ O.map Prod.fst := fun q => by
    obtain ⟨y, hy, ey⟩ := List.mem_map.mp q
    exact (ow.at_ y hy).1 o (by rw [ey]; exact z) (by rw [ey]; exact n) t
  exact (ow2.at_ x hx).1 o (by rw [hide_out q]; exact z1) z2 t, (ow2.at_ x hx).2⟩⟩
theorem kw_back {G0 H0 G H : Hp} {B0 : Int} {Q : VK} {Gp : Hp} {Bp : Int} (ow : Owns K G0 H0 G H B O) (ex : Ext G0 H0 B0 G H B) (lp : Le Gp Bp G B) (q : KWOk K k Q Gp Bp G0 H0 B0) : KWR K k Q G (hide O H) B := fun d v O' B' G' H' hk e2 r2 ow2 =>
  q d v O' B' G' H' hk (lp.trans e2.le) (ext_back ow ex e2) r2 (owns_back ow ex ow2)
theorem wew_call {pr : PrW} (h : WaW K E e t ρ B O fun ds O1 B1 => pr ds B1 O1 k) : WeW K E e (tCall (spW K pr) [] E' t) ρ B O k := fun σ H G G0 H0 B0 Q en ow ex x q =>
  h σ H G G0 H0 B0 _ en ow ex x fun ds vs O1 B1 G1 H1 h1 l1 ex1 r1 ow1 => by
    show spW K pr (vs ++ []) H1 Q E'
    rw [List.append_nil]
    exact ⟨G1, ds, B1, O1, k, ex1.sub, r1, ⟨ow1.nd, fun x hx => (ow1.at_ x hx).2⟩, h1, kw_back ow1 ex1 l1 q⟩
theorem wew_meth {pr : PrW} {C : Addr} {m : Str} (h : WeW K E e ta ρ B O fun d O1 B1 => ∃ ns fs, d = .ins C ns fs ∧ (∀ n ∈ ns, (m == n) = false) ∧ WaW K E e t ρ B1 O1 fun ds O2 B2 => pr (d :: ds) B2 O2 k) : WeW K E e (tMeth C m (spW K pr) [] E' ta t) ρ B O k := fun σ H G G0 H0 B0 Q en ow ex x q =>
  h σ H G G0 H0 B0 _ en ow ex x fun d v O1 B1 G1 H1 ⟨ns, fs, ed, nm, h1⟩ l1 ex1 r1 ow1 => by
    subst ed
    obtain ⟨a, dx, vs, rfl, ha, hl, hr⟩ := id r1
    refine ⟨a, dx, _, rfl, ex1.sub _ _ ha, lookup_zip_none nm, ?_⟩
    refine h1 σ H1 G1 G0 H0 B0 _ (en.mono l1) ow1 ex1 x fun ds ws O2 B2 G2 H2 h2 l2 ex2 r2 ow2 => ?_
    show spW K pr (.ref a :: (ws ++ [])) H2 Q E'
    rw [List.append_nil]
    exact ⟨G2, .ins C ns fs :: ds, B2, O2, k, ex2.sub, ⟨_, _, rfl, r1.mono l2, r2⟩, ⟨ow2.nd, fun x hx => (ow2.at_ x hx).2⟩, h2, kw_back ow2 ex2 (l1.trans l2) q⟩
variable {kb : KWB}
theorem wtw_val (h : WeW K E e ta ρ B O fun d O1 B1 => ∃ b, d = .bl b ∧ kb b O1 B1) : WtW K E e (tB ta) ρ B O kb := fun σ H G G0 H0 B0 Q en ow ex x q =>
  h σ H G G0 H0 B0 _ en ow ex x fun d v O1 B1 G1 H1 ⟨b, ed, h1⟩ l1 ex1 r1 ow1 => by
    subst ed
    exact ⟨b, r1, q _ _ _ _ _ h1 l1 ex1 ow1⟩
theorem wtw_test (h : WeW K E e ta ρ B O fun d O1 B1 => ∃ b, d = .bl b ∧ kb b O1 B1) : WtW K E e (tTest ta) ρ B O kb := fun σ H G G0 H0 B0 Q en ow ex x q =>
  h σ H G G0 H0 B0 _ en ow ex x fun d v O1 B1 G1 H1 ⟨b, ed, h1⟩ l1 ex1 r1 ow1 => by
    subst ed
    exact ⟨b, r1, q _ _ _ _ _ h1 l1 ex1 ow1⟩
theorem wtw_wt (h : Wt K E e c ρ B fun b B1 => kb b O B1) : WtW K E e c ρ B O kb := fun σ H G G0 H0 B0 Q en ow ex x q =>
  h σ H G _ ex.sub en (x.ext ex) fun b B1 G1 H1 h1 e1 => q b O B1 G1 H1 h1 e1.le (ex.trans e1) (ow.ext e1)
theorem wtw_and {d : TT} (h : WtW K E e c ρ B O fun b O1 B1 => (b = true → WtW K E e d ρ B1 O1 kb) ∧ (b = false → kb false O1 B1)) : WtW K E e (tAnd c d) ρ B O kb := fun σ H G G0 H0 B0 Q en ow ex x q =>
  h σ H G G0 H0 B0 _ en ow ex x fun b O1 B1 G1 H1 h1 l1 ex1 ow1 => by
    cases b with
    | true => exact h1.1 rfl σ H1 G1 G0 H0 B0 _ (en.mono l1) ow1 ex1 x fun b O2 B2 G2 H2 h2 l2 ex2 ow2 => q _ _ _ _ _ h2 (l1.trans l2) ex2 ow2
    | false => exact q _ _ _ _ _ (h1.2 rfl) l1 ex1 ow1
theorem wx_setW (h : WeW K E e ta ρ B O fun d O1 B1 => κx.nx (ρ.set i (some d)) O1 B1) : WOw K E e (tAsg ta (gName i)) ρ B O κx := fun σ H G Dn G0 H0 B0 en ow ex x q =>
  h σ H G G0 H0 B0 _ en ow ex x fun d v O1 B1 G1 H1 h1 l1 ex1 r1 ow1 => q.nx _ _ _ _ _ _ h1 ex1 (EnvR.set r1 i (en.mono l1)) ow1
theorem wx_asgW (h : WeW K E e ta ρ B O fun d O1 B1 => Wg K g d ρ B1 fun ρ2 B2 => κx.nx ρ2 O1 B2) : WOw K E e (tAsg ta g) ρ B O κx := fun σ H G Dn G0 H0 B0 en ow ex x q =>
  h σ H G G0 H0 B0 _ en ow ex x fun d v O1 B1 G1 H1 h1 l1 ex1 r1 ow1 => h1 v σ H1 G1 _ ex1.sub (en.mono l1) r1 fun ρ2 σ2 B2 G2 H2 h2 e2 en2 => q.nx _ _ _ _ _ _ h2 (ex1.trans e2) en2 (ow1.ext e2)
theorem wx_parW (h : WaW K E e t ρ B O fun ds O1 B1 => ∃ a b, ds = [a, b] ∧ κx.nx ((ρ.set i (some a)).set j (some b)) O1 B1) : WOw K E e (tPar i j t) ρ B O κx := fun σ H G Dn G0 H0 B0 en ow ex x q =>
  h σ H G G0 H0 B0 _ en ow ex x fun ds vs O1 B1 G1 H1 ⟨a, b, ed, h1⟩ l1 ex1 r1 ow1 => by
    subst ed
    obtain ⟨v, _, rfl, ra, u, _, rfl, rb, rfl⟩ := r1
    exact ⟨v, u, rfl, q.nx _ _ _ _ _ _ h1 ex1 (EnvR.set rb j (EnvR.set ra i (en.mono l1))) ow1⟩
/-- l.append(x), l owned, told by its reference -/
theorem wx_appV (h : We K E e ta ρ B fun d B1 => ∃ p : Addr, d = .val (.ref p) ∧ (∃ es : List D, (p, OC.list es) ∈ O) ∧ WeW K E e tb ρ B1 O fun d2 O2 B2 => ∃ (n : Nat) (es : List D), O2[n]? = some (p, OC.list es) ∧ es.length < sizeLine ∧ κx.nx ρ (O2.set n (p, .list (es ++ [d2]))) B2) : WOw K E e (tDrop (tBM K "list" rAppend ta (tCons tb tNil))) ρ B O κx := fun σ H G Dn G0 H0 B0 en ow ex x q =>
  h σ H G _ ex.sub en (x.ext ex) fun d v B1 G1 H1 ⟨p, ed, ⟨es0, hm⟩, h2⟩ e1 r1 => by
    subst ed
    rw [show v = _ from r1]
    have ow1 := ow.ext e1
    obtain ⟨_, _, vs0, hL0, _⟩ := ow1.at_ _ hm
    refine ⟨.inl ⟨rfl, vs0, SqL.of hL0⟩, h2 σ H1 G1 G0 H0 B0 _ (en.mono e1.le) ow1 (ex.trans e1) x fun d2 w O2 B2 G2 H2 ⟨n, es, hn, hl, hk⟩ l2 ex2 r2 ow2 => ?_⟩
    obtain ⟨np, gp, vs, hL, hr⟩ := own_at ow2 hn
    refine ⟨p, vs, w, rfl, rfl, hL, by rw [← hr.length]; exact hl, ?_⟩
    exact q.nx _ _ σ B2 G2 _ hk (ex2.chgN np gp) (en.mono (e1.le.trans l2)) (owns_set ow2 hn ⟨_, upd_same, hr.append ⟨w, [], rfl, r2, rfl⟩⟩)
theorem wx_ifW (h : WtW K E e c ρ B O fun b O1 B1 => (b = true → WOw K E e ts ρ B1 O1 κx) ∧ (b = false → WOw K E e us ρ B1 O1 κx)) : WOw K E e (tIfS c ts us) ρ B O κx := fun σ H G Dn G0 H0 B0 en ow ex x q =>
  h σ H G G0 H0 B0 _ en ow ex x fun b O1 B1 G1 H1 ⟨h1, h2⟩ l1 ex1 ow1 => by
    cases b with
    | true => rw [if_pos rfl]; exact h1 rfl σ H1 G1 Dn G0 H0 B0 (en.mono l1) ow1 ex1 x q
    | false => rw [if_neg Bool.false_ne_true]; exact h2 rfl σ H1 G1 Dn G0 H0 B0 (en.mono l1) ow1 ex1 x q
theorem wx_whileW (I : Nat → List (Option D) → OwL → Int → Prop) (m : Nat) (h0 : I m ρ O B)
    (hs : ∀ n ρ' O' B', I n ρ' O' B' → WtW K E e c ρ' B' O' fun b O1 B1 => (b = true → WOw K E e ts ρ' B1 O1 { nx := fun ρ2 O2 B2 => ∃ n', n' < n ∧ I n' ρ2 O2 B2, rt := κx.rt, bk := κx.nx, ct := fun ρ2 O2 B2 => ∃ n', n' < n ∧ I n' ρ2 O2 B2 }) ∧ (b = false → κx.nx ρ' O1 B1)) : WOw K E e (tWhile c ts) ρ B O κx := fun σ H G Dn G0 H0 B0 en ow ex x q => by
  refine ⟨fun n σ' H' => ∃ ρ' O' B' G', I n ρ' O' B' ∧ Ext G0 H0 B0 G' H' B' ∧ EnvR K G' B' ρ' σ' ∧ Owns K G0 H0 G' H' B' O', ⟨m, ρ, O, B, G, h0, ex, en, ow⟩, ?_⟩
  rintro n σ' H' ⟨ρ', O', B', G', hI, e1, en1, ow1⟩
  refine hs n ρ' O' B' hI σ' H' G' G0 H0 B0 _ en1 ow1 e1 x fun b O2 B2 G2 H2 hb l2 ex2 ow2 => ?_
  cases b with
  | true =>
    rw [if_pos rfl]
    refine ⟨fun σ3 H3 => ∃ n', n' < n ∧ ∃ ρ' O' B' G', I n' ρ' O' B' ∧ Ext G0 H0 B0 G' H3 B' ∧ EnvR K G' B' ρ' σ3 ∧ Owns K G0 H0 G' H3 B' O', fun _ _ z => z, ?_⟩
    refine hb.1 rfl σ' H2 G2 _ G0 H0 B0 (en1.mono l2) ow2 ex2 x ⟨?_, q.rt, q.nx, ?_⟩
    · rintro ρ3 O3 σ3 B3 G3 H3 ⟨n', l, h3⟩ e3 en3 ow3
      exact ⟨n', l, ρ3, O3, B3, G3, h3, e3, en3, ow3⟩
    · rintro ρ3 O3 σ3 B3 G3 H3 ⟨n', l, h3⟩ e3 en3 ow3
      exact ⟨n', l, ρ3, O3, B3, G3, h3, e3, en3, ow3⟩
  | false =>
    rw [if_neg Bool.false_ne_true]
    exact q.nx _ _ _ _ _ _ (hb.2 rfl) ex2 (en1.mono l2) ow2
structure KY where
  nx : List (Option D) → OwL → Int → Prop := fun _ _ _ => False
  rt : KW
def WW (K : PySem.W.Frag) (E : XK) (e : EW) (t : TS) (ρ : List (Option D)) (B : Int) (O : OwL) (κ : KY) : Prop :=
  ∀ σ H G Dn G0 H0 B0, EnvR K G B ρ σ → Owns K G0 H0 G H B O → Ext G0 H0 B0 G H B → XOk K E e G0 H0 B0 → XEnd K κ.nx Dn.nx G0 H0 B0 → KWR K κ.rt Dn.rt G0 H0 B0 → t Dn σ H
variable {κy : KY}
theorem ww_seq (h : WW K E e s ρ B O { κy with nx := fun ρ' O' B' => WW K E e us ρ' B' O' κy }) : WW K E e (tSeq s us) ρ B O κy := fun σ H G Dn G0 H0 B0 en ow ex x q r =>
  h σ H G { Dn with nx := us Dn } G0 H0 B0 en ow ex x (fun ρ' O' σ' B' G' H' hz ex' en' ow' => hz σ' H' G' Dn G0 H0 B0 en' ow' ex' x q r) r
theorem ww_x (h : WOw K E e s ρ B O { nx := κy.nx, rt := fun _ _ => False }) : WW K E e s ρ B O κy := fun σ H G Dn G0 H0 B0 en ow ex x q r =>
  h σ H G Dn G0 H0 B0 en ow ex x ⟨q, fun _ _ _ _ _ z => z.elim, fun _ _ _ _ _ _ z => z.elim, fun _ _ _ _ _ _ z => z.elim⟩
/-- a statement, then the rest -/
theorem ww_then (J : List (Option D) → OwL → Int → Prop) (h1 : WOw K E e s ρ B O { nx := J, rt := fun _ _ => False }) (h2 : ∀ ρ' O' B', J ρ' O' B' → WW K E e us ρ' B' O' κy) : WW K E e (tSeq s us) ρ B O κy :=
  ww_seq <| ww_x fun σ H G Dn G0 H0 B0 en ow ex x q => h1 σ H G Dn G0 H0 B0 en ow ex x ⟨fun ρ' O' σ' B' G' H' hz ex' en' ow' => q.nx ρ' O' σ' B' G' H' (h2 _ _ _ hz) ex' en' ow', fun _ _ _ _ _ z => z.elim, fun _ _ _ _ _ _ z => z.elim, fun _ _ _ _ _ _ z => z.elim⟩
theorem ww_ret (h : WeW K E e ta ρ B O κy.rt) : WW K E e (tRet ta) ρ B O κy := fun σ H G Dn G0 H0 B0 en ow ex x q r =>
  h σ H G G0 H0 B0 _ en ow ex x fun d v O' B' G' H' hk l ex' rv ow' => r d v O' B' G' H' hk ex' rv ow'
theorem ww_if (h : WtW K E e c ρ B O fun b O1 B1 => (b = true → WW K E e ts ρ B1 O1 κy) ∧ (b = false → WW K E e us ρ B1 O1 κy)) : WW K E e (tIfS c ts us) ρ B O κy := fun σ H G Dn G0 H0 B0 en ow ex x q r =>
  h σ H G G0 H0 B0 _ en ow ex x fun b O1 B1 G1 H1 ⟨h1, h2⟩ l1 ex1 ow1 => by
    cases b with
    | true => rw [if_pos rfl]; exact h1 rfl σ H1 G1 Dn G0 H0 B0 (en.mono l1) ow1 ex1 x q r
    | false => rw [if_neg Bool.false_ne_true]; exact h2 rfl σ H1 G1 Dn G0 H0 B0 (en.mono l1) ow1 ex1 x q r
theorem ww_next (h : κy.nx ρ O B) : WW K E e tNext ρ B O κy := fun σ H G Dn G0 H0 B0 en ow ex x q r => q _ _ _ _ _ _ h ex en ow
theorem run_bodyW {N : List Str} {G H : Hp} {ds : List D} {vs : List V} {Q : VK} (hs : Sub G H) (hr : RepL K G B ds vs) (ho : (O.map Prod.fst).Nodup ∧ ∀ x ∈ O, G x.1 = none ∧ Own1 K G H B x.1 x.2) (hk : KWR K k Q G (hide O H) B) (hN : startD N ds = ρ) (h : WW K E0 noE ts ρ B O { nx := fun _ O' B' => k .non O' B', rt := k }) :
    ts { nx := fun _ H' => Q .non H', rt := Q } (L2.start N vs) H := by
  subst hN
  refine h _ H G _ G (hide O H) B ?_ (hide_owns ho) (hide_ext hs fun x hx => (ho.2 x hx).1) XOk.no (fun ρ' O' σ' B' G' H' hz ex' en' ow' => hk _ _ _ _ _ _ hz ex' rfl ow') hk
  unfold startD L2.start
  rw [hr.length]
  exact EnvR.of_vals _ hr
end
end AW

set_option linter.all false
set_option maxRecDepth 100000
set_option maxHeartbeats 4000000
namespace AW
open PySem PySem.Spec PyProof.Rows L2 RZ LamX
variable [Tbs]
theorem putF_new {f : Str} {v : V} : ∀ {ns : List Str} {vs : List V}, ns.length = vs.length → (∀ n ∈ ns, n ≠ f) → putF f v (ns.zip vs) = (ns ++ [f]).zip (vs ++ [v])
  | [], [], _, _ => rfl
  | [], _ :: _, h, _ => nomatch h
  | _ :: _, [], h, _ => nomatch h
  | n :: ns, u :: vs, h, hn => by
    have e := putF_new (v := v) (Nat.succ.inj h) fun m hm => hn m (List.mem_cons_of_mem _ hm)
    have ne := hn n (List.mem_cons_self ..)
    show putF f v ((n, u) :: ns.zip vs) = _
    unfold putF
    first
      | rw [if_neg ne, e]; rfl
      | rw [if_neg (Ne.symm ne), e]; rfl
      | (simp [ne, e]; done)
      | (simp [Ne.symm ne, e]; done)
theorem look_obj {G : Hp} {B : Int} {K : PySem.W.Frag} {f : Str} {d : D} : ∀ {fs : List (Str × D)} {vs : List V}, RepL K G B (fs.map (·.2)) vs → fs.lookup f = some d → ∃ v, ((fs.map (·.1)).zip vs).lookup f = some v ∧ Rep K G B d v
  | [], _, _, h => by simp at h
  | (n, d0) :: fs, _, ⟨v0, vr, rfl, h0, h1⟩, h => by
    rw [List.lookup_cons] at h
    show ∃ v, ((n, v0) :: (fs.map (·.1)).zip vr).lookup f = some v ∧ _
    rw [List.lookup_cons]
    cases hq : (f == n) with
    | true => rw [hq] at h; exact ⟨v0, rfl, by cases h; exact h0⟩
    | false => rw [hq] at h; exact look_obj h1 h
section
variable {K : PySem.W.Frag} {E E' : XK} {e : EW} {ρ : List (Option D)} {B : Int} {κ : KS} {κx : KX} {ta tb tc tl te : TE} {t : TA} {c : TT} {s ts us tbody : TS} {g : TG} {i j n : Nat} {O : OwL} {p : Addr} {es : List D} {pr : Pr} {k : KW}
/-- self.f, self owned -/
theorem wew_fldS {f : Str} {C dx : Addr} {fs : List (Str × D)} {d : D} (hi : ρ[i]? = some (some (.val (.ref p)))) (hn : O[n]? = some (p, .obj C dx fs)) (hc : Cls K C) (ha : NoAttr K C f) (hf : fs.lookup f = some d) (hk : k d O B) : WeW K E e (tFld K (tVar i) f) ρ B O k := fun σ H G G0 H0 B0 Q en ow ex x q => by
  obtain ⟨v0, hv0, e0⟩ := en.get hi
  rw [show v0 = _ from e0] at hv0
  obtain ⟨_, _, vs, hL, hr⟩ := own_at ow hn
  obtain ⟨v, h1, h2⟩ := look_obj hr hf
  exact ⟨.ref p, hv0, p, C, dx, _, v, rfl, hL, hc, ha, h1, q _ _ _ _ _ _ hk (Le.refl _ _) ex h2 ow⟩
/-- self.f = x -/
theorem wx_fldS {f : Str} {C dx : Addr} (hi : ρ[i]? = some (some (.val (.ref p)))) (h : WeW K E e ta ρ B O fun d O1 B1 => ∃ (n : Nat) (fs : List (Str × D)), O1[n]? = some (p, .obj C dx fs) ∧ Cls K C ∧ NoAttr K C f ∧ fs.length < 1000 ∧ (∀ q ∈ fs.map (·.1), q ≠ f) ∧ κx.nx ρ (O1.set n (p, .obj C dx (fs ++ [(f, d)]))) B1) : WOw K E e (sFld K (tVar i) ta f) ρ B O κx := fun σ H G Dn G0 H0 B0 en ow ex x q => by
  obtain ⟨v0, hv0, e0⟩ := en.get hi
  rw [show v0 = _ from e0] at hv0
  refine h σ H G G0 H0 B0 _ en ow ex x fun d w O1 B1 G1 H1 ⟨n, fs, hn, hc, ha, hl, hf, hk⟩ l1 ex1 r1 ow1 => ?_
  obtain ⟨np, gp, vs, hL, hr⟩ := own_at ow1 hn
  have hlen := hr.length
  rw [List.length_map] at hlen
  refine ⟨.ref p, hv0, p, C, dx, _, rfl, hL, hc, ha, ?_, ?_⟩
  · rw [List.length_zip, List.length_map]; omega
  · rw [putF_new (by rw [List.length_map]; exact hlen) hf]
    exact q.nx _ _ σ B1 G1 _ hk (ex1.chgN np gp) (en.mono l1) (owns_set ow1 hn ⟨vs ++ [w], by rw [upd_same, List.map_append]; rfl, by rw [List.map_append]; exact hr.append ⟨w, [], rfl, r1, rfl⟩⟩)
/-- self.f = [..], the list owned -/
theorem wx_fldL {f : Str} {C dx : Addr} (hi : ρ[i]? = some (some (.val (.ref p)))) (h : Wa K E e t ρ B fun ds B1 => ds.length ≤ sizeLine ∧ ∀ l, ∃ (n : Nat) (fs : List (Str × D)), O[n]? = some (p, .obj C dx fs) ∧ Cls K C ∧ NoAttr K C f ∧ fs.length < 1000 ∧ (∀ q ∈ fs.map (·.1), q ≠ f) ∧ κx.nx ρ ((l, .list ds) :: O.set n (p, .obj C dx (fs ++ [(f, .val (.ref l))]))) B1) : WOw K E e (sFld K (tVar i) (tLst t) f) ρ B O κx := fun σ H G Dn G0 H0 B0 en ow ex x q => by
  obtain ⟨v0, hv0, e0⟩ := en.get hi
  rw [show v0 = _ from e0] at hv0
  refine h σ H G _ ex.sub en (x.ext ex) fun ds vs B1 G1 H1 ⟨hz, h2⟩ e1 r1 => ⟨by rw [← r1.length]; exact hz, fun l hl => ?_⟩
  obtain ⟨n, fs, hn, hc, ha, hlf, hf, hk⟩ := h2 l
  have ex1 := ex.trans e1
  have ow1 := ow.ext e1
  have ow2 : Owns K G0 H0 G1 (upd H1 l (.lst vs)) B1 ((l, .list ds) :: O) := owns_cons ow1 ex1 hl ⟨vs, upd_same, r1⟩
  have ex2 : Ext G0 H0 B0 G1 (upd H1 l (.lst vs)) B1 := ex1.trans (Ext.hid ex1.sub hl)
  have hn2 : ((l, OC.list ds) :: O)[n + 1]? = some (p, .obj C dx fs) := hn
  obtain ⟨np, gp, us, hL, hr⟩ := own_at ow2 hn2
  have hlen := hr.length
  rw [List.length_map] at hlen
  refine ⟨.ref p, hv0, p, C, dx, _, rfl, hL, hc, ha, ?_, ?_⟩
  · rw [List.length_zip, List.length_map]; omega
  · rw [putF_new (by rw [List.length_map]; exact hlen) hf]
    exact q.nx _ _ σ B1 G1 _ hk (ex2.chgN np gp) (en.mono e1.le) (owns_set ow2 hn2 ⟨us ++ [.ref l], by rw [upd_same, List.map_append]; rfl, by rw [List.map_append]; exact hr.append ⟨.ref l, [], rfl, rfl, rfl⟩⟩)
/-- an __init__'s promise, with lists that the maker owns then -/
def spIW (K : PySem.W.Frag) (C : Addr) (ns : List Str) (pi : List D → Int → (List D → OwL → Int → Prop) → Prop) : Sp := fun vs H Q E => ∃ p dx ws G ds B k, vs = .ref p :: ws ∧ H p = some (.ins C dx []) ∧ G p = none ∧ Sub G H ∧ RepL K G B ds ws ∧ pi ds B k ∧
  (∀ fs us O' B' G' H', k fs O' B' → Ext G (hide [(p, .obj C dx [])] H) B G' H' B' → G' p = none → H' p = some (.ins C dx (ns.zip us)) → ns.length = us.length → RepL K G' B' fs us → Owns K G (hide [(p, .obj C dx [])] H) G' H' B' O' → p ∉ O'.map Prod.fst → Q .non H')
theorem hide1 {p : Addr} {o : OC} {H : Hp} {a : Addr} (h : a ≠ p) : hide [(p, o)] H a = H a := hide_out (by simpa using h)
theorem wew_makeW {C : Addr} {ns : List Str} {pi : List D → Int → (List D → OwL → Int → Prop) → Prop} (h : WaW K E e t ρ B O fun ds O1 B1 => pi ds B1 (fun fs O' B2 => k (.ins C ns fs) (O' ++ O1) B2)) : WeW K E e (tMake C (spIW K C ns pi) [] E' t) ρ B O k := fun σ H G G0 H0 B0 Q en ow ex x q =>
  h σ H G G0 H0 B0 _ en ow ex x fun ds vs O1 B1 G1 H1 h1 l1 ex1 r1 ow1 => by
    show ∀ p dx, H1 p = none → H1 dx = none → dx ≠ p → _
    intro p dx np nd ne
    rw [List.append_nil]
    have gp := none_sub ex1.sub np
    refine ⟨p, dx, vs, G1, ds, B1, _, rfl, upd_same, gp, fun a o z => ?_, r1, h1, fun fs us O' B2 G2 H2 hk e2 g2 h2 hl hr ow2 hp => ⟨rfl, ?_⟩⟩
    · have := ex1.sub _ _ z
      rw [upd_ne (ne_of_none this np), upd_ne (ne_of_none this nd)]
      exact this
    · have keep : ∀ a o, H1 a = some o → G1 a = none → NTb o → H2 a = some o ∧ G2 a = none := fun a o z n t => e2.fr a o (by
        rw [hide1 (ne_of_none z np), upd_ne (ne_of_none z np), upd_ne (ne_of_none z nd)]; exact z) n t
      have le2 : Le G2 B2 (upd G2 p (.ins C dx (ns.zip us))) B2 := Le.of_sub (fun a o z => by rw [upd_ne (ne_of_none z g2)]; exact z) (Int.le_refl _)
      have ex2 : Ext G0 H0 B0 (upd G2 p (.ins C dx (ns.zip us))) H2 B2 := by
        refine ⟨(ex1.le.trans e2.le).trans le2, fun a o z => ?_, fun a o z n t => ?_⟩
        · by_cases hq : a = p
          · subst hq; rw [upd_same] at z; cases z; exact h2
          · rw [upd_ne hq] at z; exact e2.sub _ _ z
        · obtain ⟨z1, z2⟩ := ex1.fr a o z n t
          obtain ⟨z3, z4⟩ := keep a o z1 z2 t
          exact ⟨z3, by rw [upd_ne (ne_of_none z1 np)]; exact z4⟩
      have dis : ∀ y ∈ O', ∀ z ∈ O1, y.1 ≠ z.1 := fun y hy z hz w => by
        obtain ⟨_, gz, oz⟩ := ow1.at_ z hz
        obtain ⟨v, hv, nt⟩ := own_nt oz
        refine (ow2.at_ y hy).1 v ?_ (by rw [w]; exact gz) nt
        rw [w, hide1 (ne_of_none hv np), upd_ne (ne_of_none hv np), upd_ne (ne_of_none hv nd)]
        exact hv
      refine q _ _ _ _ _ _ hk ((l1.trans e2.le).trans le2) ex2 ⟨p, dx, us, rfl, upd_same, hl, hr.mono le2⟩ ⟨?_, fun y hy => ?_⟩
      · rw [List.map_append, List.nodup_append]
        refine ⟨ow2.nd, ow1.nd, fun a ha b hb w => ?_⟩
        obtain ⟨y, hy, rfl⟩ := List.mem_map.mp ha
        obtain ⟨z, hz, rfl⟩ := List.mem_map.mp hb
        exact dis y hy z hz w
      · rcases List.mem_append.mp hy with hy | hy
        · obtain ⟨z1, z2, z3⟩ := ow2.at_ y hy
          have yp : y.1 ≠ p := fun w => hp (by rw [← w]; exact List.mem_map_of_mem hy)
          refine ⟨fun o a n t => ?_, by rw [upd_ne yp]; exact z2, own_mv z3 rfl le2⟩
          obtain ⟨w1, w2⟩ := ex1.fr _ o a n t
          refine z1 o ?_ w2 t
          rw [hide1 yp, upd_ne yp, upd_ne (ne_of_none w1 nd)]
          exact w1
        · obtain ⟨z1, z2, z3⟩ := ow1.at_ y hy
          obtain ⟨v, hv, nt⟩ := own_nt z3
          obtain ⟨w1, w2⟩ := keep _ _ hv z2 nt
          exact ⟨z1, by rw [upd_ne (ne_of_none hv np)]; exact w2, own_mv z3 (w1.trans hv.symm) (e2.le.trans le2)⟩
/-- the run of an __init__'s body -/
theorem run_init {C dx : Addr} {G H : Hp} {ds : List D} {ws : List V} {N : List Str} {Q : VK} {kf : List (Str × D) → OwL → Int → Prop} (hp : H p = some (.ins C dx [])) (gp : G p = none) (hs : Sub G H) (hr : RepL K G B ds ws) (hN : startD N (.val (.ref p) :: ds) = ρ)
    (hQ : ∀ fs us O' B' G' H', kf fs O' B' → Ext G (hide [(p, .obj C dx [])] H) B G' H' B' → G' p = none → H' p = some (.ins C dx ((fs.map (·.1)).zip us)) → RepL K G' B' (fs.map (·.2)) us → Owns K G (hide [(p, .obj C dx [])] H) G' H' B' O' → p ∉ O'.map Prod.fst → Q .non H')
    (h : WOw K E0 noE ts ρ B [(p, .obj C dx [])] { nx := fun _ O' B' => ∃ (n : Nat) (fs : List (Str × D)), O'[n]? = some (p, .obj C dx fs) ∧ kf fs (O'.eraseIdx n) B', rt := fun _ _ => False }) :
    ts { nx := fun _ H' => Q .non H', rt := Q } (L2.start N (.ref p :: ws)) H := by
  subst hN
  have ho : (([(p, OC.obj C dx [])] : OwL).map Prod.fst).Nodup ∧ ∀ x ∈ ([(p, OC.obj C dx [])] : OwL), G x.1 = none ∧ Own1 K G H B x.1 x.2 := ⟨by simp, fun x hx => by
    rw [List.mem_singleton] at hx
    subst hx
    exact ⟨gp, [], hp, rfl⟩⟩
  refine h _ H G _ G (hide [(p, .obj C dx [])] H) B ?_ (hide_owns ho) (hide_ext hs fun x hx => (ho.2 x hx).1) XOk.no ⟨fun ρ' O' σ' B' G' H' ⟨n, fs, hn, hk⟩ ex' en' ow' => ?_, fun _ _ _ _ _ z => z.elim, fun _ _ _ _ _ _ z => z.elim, fun _ _ _ _ _ _ z => z.elim⟩
  · unfold startD L2.start
    rw [show (D.val (.ref p) :: ds).length = (V.ref p :: ws).length by rw [List.length_cons, List.length_cons, hr.length]]
    exact EnvR.of_vals _ ⟨_, _, rfl, rfl, hr⟩
  · obtain ⟨_, g2, us, h2, hr2⟩ := own_at ow' hn
    have hsub : (O'.eraseIdx n).Sublist O' := List.eraseIdx_sublist ..
    refine hQ fs us _ B' G' H' hk ex' g2 h2 hr2 ⟨ow'.nd.sublist (hsub.map _), fun y hy => ow'.at_ y (hsub.subset hy)⟩ ?_
    intro hm
    have hl := (List.getElem?_eq_some_iff.mp hn).1
    rw [List.eraseIdx_eq_take_drop_succ, List.map_append] at hm
    have nd := ow'.nd
    have e : O' = O'.take n ++ (p, .obj C dx fs) :: O'.drop (n + 1) := by
      have h1 := (List.take_append_drop n O').symm
      rw [List.drop_eq_getElem_cons hl] at h1
      have h3 : O'[n] = (p, .obj C dx fs) := (List.getElem?_eq_some_iff.mp hn).2
      rw [h3] at h1
      exact h1
    rw [e, List.map_append, List.map_cons, List.nodup_append] at nd
    rcases List.mem_append.mp hm with h | h
    · exact nd.2.2 _ h p (List.mem_cons_self ..) rfl
    · exact (List.nodup_cons.mp nd.2.1).1 h
end
end AW

set_option linter.all false
set_option maxRecDepth 100000
set_option maxHeartbeats 4000000
namespace AW
open PySem PySem.Spec PyProof.Rows L2 RZ LamX
variable [Tbs]
section
variable {K : PySem.W.Frag} {E E1 : XK} {e : EW} {ρ : List (Option D)} {B : Int} {κx : KX} {κy : KY} {tl te : TE} {s : TS} {i sl : Nat} {O O' : OwL} {p : Addr} {es : List D} {k : KW}
theorem ww_perm (hp : O'.Perm O) (h : WW K E e s ρ B O' κy) : WW K E e s ρ B O κy := fun σ H G Dn G0 H0 B0 en ow ex x q r =>
  h σ H G Dn G0 H0 B0 en ⟨((hp.map _).nodup_iff).mpr ow.nd, fun y hy => ow.at_ y (hp.mem_iff.mp hy)⟩ ex x q r
theorem ww_tell (hi : ρ[i]? = some (some (.val (.ref p)))) (h : WW K E e s (ρ.set i (some (.lst es))) B O κy) : WW K E e s ρ B ((p, .list es) :: O) κy := fun σ H G Dn G0 H0 B0 en ow ex x q r => by
  obtain ⟨v0, hv0, e0⟩ := en.get hi
  rw [show v0 = _ from e0] at hv0
  obtain ⟨np, gp, vs, hL, hr⟩ := own_at (n := 0) ow rfl
  obtain ⟨ex2, ow2, le⟩ := owns_tell ow ex hL
  have en2 := EnvR.set (d := .lst es) (v := .ref p) ⟨p, vs, rfl, upd_same, hr.mono le⟩ i (en.mono le)
  rw [set_id hv0] at en2
  exact h σ H _ Dn G0 H0 B0 en2 ow2 ex2 x q r
theorem ww_drop1 {z : Addr × OC} (h : WW K E e s ρ B O κy) : WW K E e s ρ B (z :: O) κy := fun σ H G Dn G0 H0 B0 en ow ex x q r =>
  h σ H G Dn G0 H0 B0 en ⟨(List.nodup_cons.mp ow.nd).2, fun y hy => ow.at_ y (List.mem_cons_of_mem _ hy)⟩ ex x q r
/-- [f(x) for x in l], where f changes what is owned -/
theorem wew_lcL (h : We K E e tl ρ B fun d B1 => ∃ ds, d = .lst ds ∧ ds.length < sizeLine ∧ ∃ I : Nat → List D → OwL → Int → Prop, I 0 [] O B1 ∧
    (∀ i x out O' B', ds[i]? = some x → I i out O' B' → WeW K E1 noE te ((ρ.set sl none).set sl (some x)) B' O' fun y O2 B2 => I (i + 1) (out ++ [y]) O2 B2) ∧
    ∀ out O' B', out.length ≤ ds.length → I ds.length out O' B' → k (.lst out) O' B') : WeW K E e (tLc (iList K tl) (gName sl) tYes te [sl]) ρ B O k := fun σ H G G0 H0 B0 Q en ow ex x q =>
  h σ H G _ ex.sub en (x.ext ex) fun d v B1 G1 H1 ⟨ds, ed, dl, I, i0, hs, hd⟩ e1 r1 => by
    subst ed
    obtain ⟨a, vs, rfl, ha, hr⟩ := r1
    have ex1 := ex.trans e1
    have ow1 := ow.ext e1
    refine ⟨a, rfl, ⟨vs, SqL.of (e1.sub _ _ ha)⟩, fun L nL => ?_⟩
    let J : Nat → Hp → Prop := fun i H' => ∃ out O' B' G', out.length ≤ i ∧ I i out O' B' ∧ Le G1 B1 G' B' ∧ Ext G0 H0 B0 G' H' B' ∧ Owns K G0 H0 G' H' B' ((L, .list out) :: O')
    refine lc_list (xs := vs) J ?_ (fun i H' _ z => ?_) ?_ ?_
    · exact ⟨[], O, B1, G1, Nat.le_refl _, i0, Le.refl _ _, ex1.trans (Ext.hid ex1.sub nL), owns_cons ow1 ex1 nL ⟨[], upd_same, rfl⟩⟩
    · obtain ⟨out, O', B', G', _, _, l2, ex2, _⟩ := z
      exact SqL.of (ex2.sub _ _ (l2.keep _ _ ha nopen_lst))
    · intro i y H' hi hz
      obtain ⟨dx, hdx, rx⟩ := hr.get' hi
      have hlt : i < ds.length := (List.getElem?_eq_some_iff.mp hdx).1
      obtain ⟨out, O', B', G', hl, hI, l2, ex2, ow2⟩ := hz
      refine ⟨?_, ?_⟩
      · show ((σ.set sl none).set sl (some y)).set sl none = σ.set sl none
        rw [List.set_set, List.set_set]
      · have en2 : EnvR K G' B' ((ρ.set sl none).set sl (some dx)) ((σ.set sl none).set sl (some y)) := EnvR.set (rx.mono l2) sl (EnvR.wipe1 sl (en.mono (e1.le.trans l2)))
        obtain ⟨np, gp, acc, hL, hacc⟩ := own_at (n := 0) ow2 rfl
        have nt : NTb (.lst acc) := ⟨(fun _ z => nomatch z), fun _ z => nomatch z⟩
        have ow3 : Owns K G0 H0 G' H' B' O' := ⟨(List.nodup_cons.mp ow2.nd).2, fun z hz => ow2.at_ z (List.mem_cons_of_mem _ hz)⟩
        have hO : (O'.map Prod.fst).Nodup ∧ ∀ z ∈ O', G' z.1 = none ∧ Own1 K G' H' B' z.1 z.2 := ⟨ow3.nd, fun z hz => (ow3.at_ z hz).2⟩
        have nLO : L ∉ O'.map Prod.fst := (List.nodup_cons.mp ow2.nd).1
        refine hs i dx out O' B' hdx hI ((σ.set sl none).set sl (some y)) H' G' G' (hide O' H') B' _ en2 (hide_owns hO) (hide_ext ex2.sub fun z hz => (hO.2 z hz).1) XOk.no fun w v2 O2 B2 G2 H2 hI2 l3 ex3 r3 ow4 => ?_
        have ex4 := ext_back ow3 ex2 ex3
        obtain ⟨z1, z2⟩ := ex3.fr L _ (by rw [hide_out nLO]; exact hL) gp nt
        refine ⟨acc, z1, by rw [← hacc.length]; omega, out ++ [w], O2, B2, G2, by rw [List.length_append, List.length_singleton]; omega, hI2, l2.trans l3, ex4.chgN np z2, ?_⟩
        have ow5 : Owns K G0 H0 G2 H2 B2 ((L, .list out) :: O2) := by
          have ow6 := owns_back ow3 ex2 ow4
          refine ⟨List.nodup_cons.mpr ⟨fun hm => ?_, ow6.nd⟩, fun z hz => ?_⟩
          · obtain ⟨c, hc, ec⟩ := List.mem_map.mp hm
            have ec : c.1 = L := ec
            refine (ow4.at_ c hc).1 _ (by rw [ec, hide_out nLO]; exact hL) (by rw [ec]; exact gp) nt
          · rcases List.mem_cons.mp hz with rfl | hz
            · exact ⟨np, z2, acc, z1, hacc.mono l3⟩
            · exact ow6.at_ z hz
        exact owns_set (n := 0) (o' := .list (out ++ [w])) ow5 rfl ⟨_, upd_same, (hacc.mono l3).append ⟨v2, [], rfl, r3, rfl⟩⟩
    · intro H' hz
      rw [← hr.length] at hz
      obtain ⟨out, O', B', G', hl, hI, l2, ex2, ow2⟩ := hz
      obtain ⟨_, gp, acc, hL, hacc⟩ := own_at (n := 0) ow2 rfl
      obtain ⟨ex3, ow3, le⟩ := owns_tell ow2 ex2 hL
      exact q (.lst out) _ O' B' _ H' (hd out O' B' hl hI) ((e1.le.trans l2).trans le) ex3 ⟨L, acc, rfl, upd_same, hacc.mono le⟩ ow3
variable {ta tb : TE} {t : TA} {c : TT}
theorem wew_lenT (h : WeW K E e ta ρ B O fun d O1 B1 => ∃ xs, d = .tup xs ∧ k (.int xs.length) O1 B1) : WeW K E e (tCB (fun xs H Q => ∃ p ys, xs = [.ref p] ∧ (SqL K H p ys ∨ SqT K H p ys) ∧ Q (.int ys.length) H) (tCons ta tNil)) ρ B O k := fun σ H G G0 H0 B0 Q en ow ex x q =>
  h σ H G G0 H0 B0 _ en ow ex x fun d v O1 B1 G1 H1 ⟨xs, ed, hk⟩ l1 ex1 r1 ow1 => by
    subst ed
    obtain ⟨a, us, rfl, ha, hr⟩ := r1
    refine ⟨a, us, rfl, .inr ((Le.of_sub (B := B1) (B' := B1) ex1.sub (Int.le_refl _)).seqT ha), ?_⟩
    rw [← hr.length]
    exact q _ _ _ _ _ _ hk l1 ex1 rfl ow1
theorem wew_tupleL (h : WeW K E e ta ρ B O fun d O1 B1 => ∃ xs, d = .lst xs ∧ k (.tup xs) O1 B1) : WeW K E e (tCB (fun xs H Q => ∃ p ys, xs = [.ref p] ∧ ((SqL K H p ys ∧ ∀ l, H l = none → Q (.ref l) (upd H l (.tup ys))) ∨ (SqT K H p ys ∧ Q (.ref p) H))) (tCons ta tNil)) ρ B O k := fun σ H G G0 H0 B0 Q en ow ex x q =>
  h σ H G G0 H0 B0 _ en ow ex x fun d v O1 B1 G1 H1 ⟨xs, ed, hk⟩ l1 ex1 r1 ow1 => by
    subst ed
    obtain ⟨a, us, rfl, ha, hr⟩ := r1
    refine ⟨a, us, rfl, .inl ⟨SqL.of (ex1.sub _ _ ha), fun l nl => ?_⟩⟩
    have e2 := Ext.new (B := B1) (o := .tup us) ex1.sub nl
    exact q _ _ _ _ _ _ hk (l1.trans e2.le) (ex1.trans e2) ⟨l, us, rfl, SqT.of upd_same, hr.mono e2.le⟩ (ow1.ext e2)
/-- tuple(l), l owned, told by its reference -/
theorem wew_tupleV (h : We K E e ta ρ B fun d B1 => ∃ (p : Addr) (n : Nat) (es : List D), d = .val (.ref p) ∧ O[n]? = some (p, OC.list es) ∧ k (.tup es) O B1) : WeW K E e (tCB (fun xs H Q => ∃ p ys, xs = [.ref p] ∧ ((SqL K H p ys ∧ ∀ l, H l = none → Q (.ref l) (upd H l (.tup ys))) ∨ (SqT K H p ys ∧ Q (.ref p) H))) (tCons ta tNil)) ρ B O k := fun σ H G G0 H0 B0 Q en ow ex x q =>
  h σ H G _ ex.sub en (x.ext ex) fun d v B1 G1 H1 ⟨p, n, es, ed, hn, hk⟩ e1 r1 => by
    subst ed
    have ow1 := ow.ext e1
    have ex1 := ex.trans e1
    obtain ⟨_, _, us, hL, hr⟩ := own_at ow1 hn
    refine ⟨p, us, by rw [show v = _ from r1], .inl ⟨SqL.of hL, fun l nl => ?_⟩⟩
    have e2 := Ext.new (B := B1) (o := .tup us) ex1.sub nl
    exact q _ _ _ _ _ _ hk (e1.le.trans e2.le) (ex1.trans e2) ⟨l, us, rfl, SqT.of upd_same, hr.mono e2.le⟩ (ow1.ext e2)
theorem wew_ifE (h : WtW K E e c ρ B O fun b O1 B1 => (b = true → WeW K E e ta ρ B1 O1 k) ∧ (b = false → WeW K E e tb ρ B1 O1 k)) : WeW K E e (tIf c ta tb) ρ B O k := fun σ H G G0 H0 B0 Q en ow ex x q =>
  h σ H G G0 H0 B0 _ en ow ex x fun b O1 B1 G1 H1 h1 l1 ex1 ow1 => by
    have q1 : KWOk K k Q G1 B1 G0 H0 B0 := fun d v O' B' G' H' hk l => q d v O' B' G' H' hk (l1.trans l)
    cases b with
    | true => exact h1.1 rfl σ H1 G1 G0 H0 B0 Q (en.mono l1) ow1 ex1 x q1
    | false => exact h1.2 rfl σ H1 G1 G0 H0 B0 Q (en.mono l1) ow1 ex1 x q1
theorem wew_fldG {f : Str} (h : WeW K E e ta ρ B O fun d O1 B1 => ∃ C ns ds d', d = .ins C ns ds ∧ Cls K C ∧ NoAttr K C f ∧ (ns.zip ds).lookup f = some d' ∧ k d' O1 B1) : WeW K E e (tFld K ta f) ρ B O k := fun σ H G G0 H0 B0 Q en ow ex x q =>
  h σ H G G0 H0 B0 _ en ow ex x fun d v O1 B1 G1 H1 ⟨C, ns, ds, d', ed, c, n, l, h1⟩ l1 ex1 r1 ow1 => by
    subst ed
    obtain ⟨a, dx, vs, rfl, ha, hl, hr⟩ := r1
    have z : ∀ (ns : List Str) (ds : List D) (vs : List V), RepL K G1 B1 ds vs → (ns.zip ds).lookup f = some d' → ∃ v, (ns.zip vs).lookup f = some v ∧ Rep K G1 B1 d' v := by
      intro ns
      induction ns with
      | nil => intro ds vs _ h; simp at h
      | cons n r ih =>
        intro ds vs hr h
        cases ds with
        | nil => simp at h
        | cons d0 ds =>
          obtain ⟨v0, vr, rfl, h0, h1⟩ := hr
          rw [List.zip_cons_cons, List.lookup_cons] at h ⊢
          cases hq : (f == n) with
          | true => rw [hq] at h; exact ⟨v0, rfl, by cases h; exact h0⟩
          | false => rw [hq] at h; exact ih ds vr h1 h
    obtain ⟨v, lv, rv⟩ := z ns ds vs hr l
    exact ⟨a, C, dx, _, v, rfl, ex1.sub _ _ ha, c, n, lv, q _ _ _ _ _ _ h1 l1 ex1 rv ow1⟩
end
end AW

set_option linter.all false
set_option maxRecDepth 100000
set_option maxHeartbeats 4000000
namespace AW
open PySem PySem.Spec PyProof.Rows L2 RZ LamX
variable [Tbs]
section
variable {K : PySem.W.Frag} {E E1 : XK} {e : EW} {ρ : List (Option D)} {B : Int} {k : KD} {t : TA}
/-- int(a text) -/
theorem we_intS (h : Wa K E e t ρ B fun ds B1 => ∃ (a : Str) (n : Int), ds = [.str a] ∧ PySem.intText? a = some n ∧ a.length ≤ 640 ∧ k (.int n) B1) : We K E e (tCB (fun xs H Q => ∃ a n, xs = [V.str a] ∧ PySem.intText? a = some n ∧ a.length ≤ 640 ∧ Q (.int n) H) t) ρ B k :=
  we_cb fun σ H G Q s en x q => h σ H G Q s en x fun ds vs B1 G1 H1 ⟨a, n, ed, h1, h2, hk⟩ e1 r1 => q ds vs B1 G1 H1 (fun ws H2 G2 Q2 s2 r2 q2 => by
    subst ed
    obtain ⟨v, _, rfl, rv, rfl⟩ := r2
    rw [show v = _ from rv]
    exact ⟨a, n, rfl, h1, h2, q2 _ _ _ _ _ hk (Ext.refl s2) rfl⟩) e1 r1
/-- a number asked whether it is true -/
def tI (K : PySem.W.Frag) (ta : TE) : TT := fun σ H Q => ta σ H fun x H' => ∃ k, TruV K x H' k ∧ Q k H'
theorem wt_truI {kb : Bool → Int → Prop} {ta : TE} {ρ : List (Option D)} (h : We K E e ta ρ B fun d B1 => ∃ i, d = .int i ∧ kb (i != 0) B1) : Wt K E e (tI K ta) ρ B kb := fun σ H G Q s en x q =>
  h σ H G _ s en x fun d v B1 G1 H1 ⟨i, ed, h1⟩ e1 r1 => by
    subst ed
    rw [show v = _ from r1]
    exact ⟨_, rfl, q _ _ _ _ h1 e1⟩
end
section
variable {X : Cx} {a : Expr} {ta : TE}
theorem pt_truI (ha : PE X a ta) (he : ∀ whole, isTrue a X.env whole = (do let v ← whole; standAt a.pos; holding [v] (truthy v)) := by intro _; rfl) : PT X a (tI X.K ta) := pt_truth ha he
end
theorem cps_add (a b : Str) : (a ++ b).cps.toList = a.cps.toList ++ b.cps.toList := by
  show (a.cps ++ b.cps).toList = _
  simp
theorem cps_mul (z : Str) (n : Nat) : (Txt.mul z (n : Int)).cps.toList = (List.replicate n z.cps.toList).flatten := by
  have h := chS_mul z n (by omega)
  have inj : ∀ l m : List Nat, (l.map fun c => (⟨#[c]⟩ : Str)) = (m.map fun c => (⟨#[c]⟩ : Str)) → l = m := fun l m h => by
    refine List.map_inj_right (fun x y h => ?_) |>.mp h
    injection h with h
    simpa using h
  apply inj
  unfold chS at h
  rw [h]
  simp [List.map_flatten, List.map_replicate]
theorem dw_self {l : List Nat} {p : Nat → Bool} (h : ∀ x ∈ l, p x = false) : l.dropWhile p = l := by
  cases l with
  | nil => rfl
  | cons a r => rw [List.dropWhile_cons, h a (List.mem_cons_self ..)]; rfl
open NumText in
theorem dg_zero : ∀ (m : Nat) (a : Array Nat), (List.replicate m 48).foldlM (step 10) (a, true) = some (a ++ (List.replicate m 0).toArray, true)
  | 0, a => by simp
  | m + 1, a => by
    rw [List.replicate_succ, List.foldlM_cons]
    show (List.replicate m 48).foldlM (step 10) (a.push 0, true) = _
    rw [dg_zero m, List.replicate_succ]
    congr 2
    apply Array.toList_inj.mp
    simp
theorem fold_zero : ∀ (m a : Nat), (List.replicate m 0).foldl (fun acc d => acc * 10 + d) a = a * 10 ^ m
  | 0, a => by simp
  | m + 1, a => by
    rw [List.replicate_succ, List.foldl_cons, fold_zero m, Nat.add_zero, Nat.pow_succ, Nat.mul_assoc, Nat.mul_comm 10]
theorem int_ten {n : Nat} (h : n ≤ 630) : PySem.intText? (("1" : Str) ++ Txt.mul ("0" : Str) (n : Int)) = some ((10 : Int) ^ n) ∧ (("1" : Str) ++ Txt.mul ("0" : Str) (n : Int)).length ≤ 640 ∧ ("1" : Str).length + (Txt.mul ("0" : Str) (n : Int)).length ≤ sizeLine := by
  have c1 : ("1" : Str).cps.toList = [49] := by decide +kernel
  have c0 : ("0" : Str).cps.toList = [48] := by decide +kernel
  have e0 : (Txt.mul ("0" : Str) (n : Int)).cps.toList = List.replicate n 48 := by
    rw [cps_mul, c0]
    induction n with
    | zero => rfl
    | succ n ih => rw [List.replicate_succ, List.flatten_cons, ih (by omega)]; rfl
  have e : (("1" : Str) ++ Txt.mul ("0" : Str) (n : Int)).cps.toList = 49 :: List.replicate n 48 := by rw [cps_add, c1, e0]; rfl
  have hm : ∀ x ∈ (49 :: List.replicate n 48 : List Nat), x = 49 ∨ x = 48 := fun x hx => by
    rcases List.mem_cons.mp hx with h | h
    · exact .inl h
    · exact .inr (List.eq_of_mem_replicate h)
  have hl : ∀ z : Str, z.length = z.cps.toList.length := fun z => (Array.length_toList).symm
  have zs : 1000 ≤ sizeLine := by decide
  refine ⟨?_, by rw [hl, e]; simp; omega, by rw [hl, hl, c1, e0]; simp; omega⟩
  have ha : (("1" : Str) ++ Txt.mul ("0" : Str) (n : Int)).cps.all (fun x => decide (x < 128)) = true := by
    rw [← Array.all_toList, e, List.all_eq_true]
    intro x hx
    rcases hm x hx with rfl | rfl <;> rfl
  obtain ⟨et, es⟩ := numText_signs (x := ("1" : Str) ++ Txt.mul ("0" : Str) (n : Int)) (fun c hc => by rw [e] at hc; rcases hm c hc with rfl | rfl <;> exact .inr ⟨by decide, by decide⟩)
  rw [e] at et es
  have b : ∀ x ∈ (49 :: List.replicate n 48 : List Nat), NumText.blank x = false := fun x hx => by
    rcases hm x hx with rfl | rfl <;> rfl
  have ec : NumText.core (49 :: List.replicate n 48) = 49 :: List.replicate n 48 := by
    unfold NumText.core
    rw [dw_self b]
    show ((49 :: List.replicate n 48).reverse.dropWhile NumText.blank).reverse = _
    rw [dw_self (fun x hx => b x (List.mem_reverse.mp hx)), List.reverse_reverse]
  have ed : NumText.digits? 10 (49 :: List.replicate n 48) = some (#[1] ++ (List.replicate n 0).toArray) := by
    unfold NumText.digits?
    rw [List.foldlM_cons]
    show (((List.replicate n 48).foldlM (NumText.step 10) (#[1], true)).bind _) = _
    rw [dg_zero]
    rfl
  unfold PySem.intText?
  rw [es, et, ec, ed, if_pos (by simp)]
  show (if (#[1] ++ (List.replicate n 0).toArray).size ≤ 4300 then _ else none) = _
  rw [if_pos (by simp; omega), dw_self b]
  show some (((#[1] ++ (List.replicate n 0).toArray).foldl (fun acc d => acc * 10 + d) 0 : Nat) : Int) = _
  have ef : (#[1] ++ (List.replicate n 0).toArray).foldl (fun acc d => acc * 10 + d) 0 = 10 ^ n := by
    rw [← Array.foldl_toList, Array.toList_append, List.foldl_append]
    show (List.replicate n 0).foldl (fun acc d => acc * 10 + d) 1 = _
    rw [fold_zero, Nat.one_mul]
  rw [ef]
  push_cast
  rfl
end AW

set_option linter.all false
set_option maxRecDepth 100000
set_option maxHeartbeats 4000000
namespace AW
open PySem PySem.Spec PyProof.Rows L2 RZ LamX
variable [Tbs]
section
variable {K : PySem.W.Frag} {E E1 : XK} {e : EW} {ρ : List (Option D)} {B : Int} {κ : KS} {ta tb : TE} {us : TS} {i : Nat}
/-- x = a list + a list: owned (among others) -/
theorem wx_catA {κx : KX} {O : List (Addr × OC)} (h : We K E e ta ρ B fun a B1 => We K E e tb ρ B1 fun b B2 => ∃ xs ys : List D, a = .lst xs ∧ b = .lst ys ∧ xs.length + ys.length ≤ sizeLine ∧ ∀ p, κx.nx (ρ.set i (some (.val (.ref p)))) ((p, .list (xs ++ ys)) :: O) B2) : WOw K E e (tAsg (tOp rCat ta tb) (gName i)) ρ B O κx := fun σ H G Dn G0 H0 B0 en ow ex x q =>
  h σ H G _ ex.sub en (x.ext ex) fun a v B1 G1 H1 h1 e1 r1 => h1 σ H1 G1 _ e1.sub (en.mono e1.le) ((x.ext ex).ext e1) fun b u B2 G2 H2 ⟨xs, ys, ea, eb, hl, hk⟩ e2 r2 => by
    subst ea eb
    have r1' := r1.mono e2.le
    obtain ⟨a, vs, rfl, ha, hr⟩ := r1'
    obtain ⟨b, ws, rfl, hb2, hw⟩ := r2
    have e12 := e1.trans e2
    exact ⟨a, b, vs, ws, rfl, rfl, e2.sub _ _ ha, e2.sub _ _ hb2, by rw [← hr.length, ← hw.length]; exact hl, fun p np => q.nx _ _ _ B2 G2 _ (hk p) ((ex.trans e12).trans (Ext.hid e2.sub np)) (EnvR.set (d := .val (.ref p)) (v := .ref p) rfl i (en.mono e12.le)) (owns_cons (ow.ext e12) (ex.trans e12) np ⟨vs ++ ws, upd_same, hr.append hw⟩)⟩
end
end AW

set_option linter.all false
set_option maxRecDepth 100000
set_option maxHeartbeats 8000000
namespace AW
open PySem PySem.Spec PyProof.Rows L2
variable [Tbs]
theorem for_zipM {K : PySem.W.Frag} {a b : Addr} {xs ys : List V} (hl : xs.length = ys.length) {g : TG} {tb : TS} {D : Ends} {σ : L2.St} {H : Hp} (Pv : Nat → L2.St → Hp → Prop) (h0 : Pv 0 σ H) (hq : ∀ i σ H, i ≤ xs.length → Pv i σ H → SqT K H a xs ∧ SqL K H b ys)
    (hs : ∀ i x y T σ H, xs[i]? = some x → ys[i]? = some y → Pv i σ H → H T = none → g (.ref T) σ (upd H T (.tup [x, y])) fun σ2 H2 => tb { D with nx := Pv (i + 1), ct := Pv (i + 1), bk := D.nx } σ2 H2) (hd : ∀ σ H, Pv xs.length σ H → D.nx σ H) :
    ∃ W : Nat → Nat → L2.St → Hp → Prop, (∃ m, W 0 m σ H) ∧ ∀ i m σ H, W i m σ H →
      ((ItzM K a b).stop i H ∧ D.nx σ H) ∨ ((ItzM K a b).go i H ∧ ∃ N : L2.St → Hp → Prop, (∀ σ' H', N σ' H' → ∃ m', m' < m ∧ W (i + 1) m' σ' H') ∧ ∀ x H', (ItzM K a b).yld i H x H' → g x σ H' fun σ2 H2 => tb { D with nx := N, ct := N, bk := D.nx } σ2 H2) := by
  refine ⟨fun i m σ H => m = xs.length - i ∧ i ≤ xs.length ∧ Pv i σ H, ⟨xs.length, by simp, Nat.zero_le _, h0⟩, ?_⟩
  rintro i m σ H ⟨rfl, hi, p⟩
  obtain ⟨qx, qy⟩ := hq i σ H hi p
  by_cases hlt : i < xs.length
  · have hlt2 : i < ys.length := by omega
    refine .inr ⟨⟨xs, ys, _, _, qx, qy, List.getElem?_eq_getElem hlt, List.getElem?_eq_getElem hlt2⟩, Pv (i + 1), fun σ' H' p' => ⟨xs.length - (i + 1), by omega, rfl, hlt, p'⟩, fun v H' y => ?_⟩
    obtain ⟨T, x', y', rfl, hT, rfl, f1, f2⟩ := y
    exact hs i x' y' T σ H (f1 xs qx) (f2 ys qy) p hT
  · have e : i = xs.length := by omega
    subst e
    exact .inl ⟨⟨xs, ys, qx, qy, Nat.le_refl _, by omega, .inl rfl⟩, hd σ H p⟩
section
variable {K : PySem.W.Frag} {E : XK} {e : EW} {ρ : List (Option D)} {B : Int}
/-- for x, y in zip(tuple, list) -/
theorem ws_for_zipM {κ : KS} {g : TG} {t : TA} {tbody : TS} (h : Wa K E e t ρ B fun as B1 => ∃ xs ys : List D, as = [.tup xs, .lst ys] ∧ xs.length = ys.length ∧ ∃ I : Nat → KE', I 0 ρ B1 ∧ (∀ i x y ρ' B', xs[i]? = some x → ys[i]? = some y → I i ρ' B' → Wg K g (.tup [x, y]) ρ' B' fun ρ2 B2 => Ws K E e tbody ρ2 B2 { nx := I (i + 1), rt := κ.rt, bk := κ.nx, ct := I (i + 1) }) ∧ ∀ ρ' B', I xs.length ρ' B' → κ.nx ρ' B') :
    Ws K E e (tFor (iZipM K t) g tbody) ρ B κ := fun σ H G Dn s en x q =>
  h σ H G _ s en x fun as vs B1 G1 H1 ⟨xs, ys, ed, hl, I, i0, hs, hd⟩ e1 r1 => by
    subst ed
    obtain ⟨_, _, rfl, ⟨a, us, rfl, ha, hr⟩, _, _, rfl, ⟨b, ws, rfl, hb, hw⟩, rfl⟩ := r1
    have hul : us.length = ws.length := by rw [← hr.length, ← hw.length]; exact hl
    have kp : ∀ G' H' B', Ext G1 H1 B1 G' H' B' → SqT K H' a us := fun G' H' B' e2 => (Le.of_sub (B := B) (B' := B) e2.sub (Int.le_refl _)).seqT (e2.le.seqT ha)
    refine ⟨a, b, us, ws, rfl, SqL.of (e1.sub _ _ hb), .inl ⟨kp _ _ _ (Ext.refl e1.sub), ?_⟩⟩
    refine for_zipM (xs := us) (ys := ws) hul (fun i σ' H' => ∃ ρ' B' G', I i ρ' B' ∧ Ext G1 H1 B1 G' H' B' ∧ EnvR K G' B' ρ' σ') ⟨ρ, B1, G1, i0, Ext.refl e1.sub, en.mono e1.le⟩ (fun i σ' H' _ ⟨_, _, G', _, e2, _⟩ => ⟨kp _ _ _ e2, SqL.of (e2.sub _ _ (e2.le.keep _ _ hb nopen_lst))⟩) ?_ ?_
    · rintro i v w T σ' H' hi hi2 ⟨ρ', B', G', hI, e2, en2⟩ hT
      obtain ⟨dx, hdx, rx⟩ := hr.get' hi
      obtain ⟨dy, hdy, ry⟩ := hw.get' hi2
      have gT : G' T = none := by
        cases z : G' T with
        | none => rfl
        | some u => rw [e2.sub _ _ z] at hT; cases hT
      have e3 := Ext.new (B := B') (o := .tup [v, w]) e2.sub hT
      refine hs i dx dy ρ' B' hdx hdy hI (.ref T) σ' _ _ _ e3.sub (en2.mono e3.le) ⟨T, [v, w], rfl, SqT.of upd_same, v, [w], rfl, (rx.mono e2.le).mono e3.le, w, [], rfl, (ry.mono e2.le).mono e3.le, rfl⟩ fun ρ2 σ2 B2 G2 H2 h2 e4 en4 => ?_
      have eA := e1.trans ((e2.trans e3).trans e4)
      exact h2 σ2 H2 G2 _ e4.sub en4 (x.ext eA) ⟨fun ρ3 σ3 B3 G3 H3 h3 e5 en5 => ⟨ρ3, B3, G3, h3, ((e2.trans e3).trans e4).trans e5, en5⟩, q.rt.ext eA, q.nx.ext eA, fun ρ3 σ3 B3 G3 H3 h3 e5 en5 => ⟨ρ3, B3, G3, h3, ((e2.trans e3).trans e4).trans e5, en5⟩⟩
    · rintro σ' H' ⟨ρ', B', G', hI, e2, en2⟩
      rw [← hr.length] at hI
      exact q.nx _ _ _ _ _ (hd _ _ hI) (e1.trans e2) en2
/-- for x, y in zip(list, list), where it may be a tuple too -/
theorem ws_for_zipML {κ : KS} {g : TG} {t : TA} {tbody : TS} (h : Wa K E e t ρ B fun as B1 => ∃ xs ys : List D, as = [.lst xs, .lst ys] ∧ xs.length = ys.length ∧ ∃ I : Nat → KE', I 0 ρ B1 ∧ (∀ i x y ρ' B', xs[i]? = some x → ys[i]? = some y → I i ρ' B' → Wg K g (.tup [x, y]) ρ' B' fun ρ2 B2 => Ws K E e tbody ρ2 B2 { nx := I (i + 1), rt := κ.rt, bk := κ.nx, ct := I (i + 1) }) ∧ ∀ ρ' B', I xs.length ρ' B' → κ.nx ρ' B') :
    Ws K E e (tFor (iZipM K t) g tbody) ρ B κ := fun σ H G Dn s en x q =>
  h σ H G _ s en x fun as vs B1 G1 H1 ⟨xs, ys, ed, hl, I, i0, hs, hd⟩ e1 r1 => by
    subst ed
    obtain ⟨_, _, rfl, ⟨a, us, rfl, ha, hr⟩, _, _, rfl, ⟨b, ws, rfl, hb, hw⟩, rfl⟩ := r1
    have hul : us.length = ws.length := by rw [← hr.length, ← hw.length]; exact hl
    have kp : ∀ G' H' B', Ext G1 H1 B1 G' H' B' → SqL K H' a us := fun G' H' B' e2 => SqL.of (e2.sub _ _ (e2.le.keep _ _ ha nopen_lst))
    refine ⟨a, b, us, ws, rfl, SqL.of (e1.sub _ _ hb), .inr ⟨kp _ _ _ (Ext.refl e1.sub), ?_⟩⟩
    refine for_zip (Sq := SqL K) (xs := us) (ys := ws) hul (fun i σ' H' => ∃ ρ' B' G', I i ρ' B' ∧ Ext G1 H1 B1 G' H' B' ∧ EnvR K G' B' ρ' σ') ⟨ρ, B1, G1, i0, Ext.refl e1.sub, en.mono e1.le⟩ (fun i σ' H' _ ⟨_, _, G', _, e2, _⟩ => ⟨kp _ _ _ e2, SqL.of (e2.sub _ _ (e2.le.keep _ _ hb nopen_lst))⟩) ?_ ?_
    · rintro i v w T σ' H' hi hi2 ⟨ρ', B', G', hI, e2, en2⟩ hT
      obtain ⟨dx, hdx, rx⟩ := hr.get' hi
      obtain ⟨dy, hdy, ry⟩ := hw.get' hi2
      have gT : G' T = none := by
        cases z : G' T with
        | none => rfl
        | some u => rw [e2.sub _ _ z] at hT; cases hT
      have e3 := Ext.new (B := B') (o := .tup [v, w]) e2.sub hT
      refine hs i dx dy ρ' B' hdx hdy hI (.ref T) σ' _ _ _ e3.sub (en2.mono e3.le) ⟨T, [v, w], rfl, SqT.of upd_same, v, [w], rfl, (rx.mono e2.le).mono e3.le, w, [], rfl, (ry.mono e2.le).mono e3.le, rfl⟩ fun ρ2 σ2 B2 G2 H2 h2 e4 en4 => ?_
      have eA := e1.trans ((e2.trans e3).trans e4)
      exact h2 σ2 H2 G2 _ e4.sub en4 (x.ext eA) ⟨fun ρ3 σ3 B3 G3 H3 h3 e5 en5 => ⟨ρ3, B3, G3, h3, ((e2.trans e3).trans e4).trans e5, en5⟩, q.rt.ext eA, q.nx.ext eA, fun ρ3 σ3 B3 G3 H3 h3 e5 en5 => ⟨ρ3, B3, G3, h3, ((e2.trans e3).trans e4).trans e5, en5⟩⟩
    · rintro σ' H' ⟨ρ', B', G', hI, e2, en2⟩
      rw [← hr.length] at hI
      exact q.nx _ _ _ _ _ (hd _ _ hI) (e1.trans e2) en2
end
end AW

set_option linter.all false
set_option maxRecDepth 100000
set_option maxHeartbeats 4000000
namespace AW
open PySem PySem.Spec PyProof.Rows L2 RZ
variable [Tbs]
section
variable {K : PySem.W.Frag} {E E1 : XK} {e : EW} {ρ : List (Option D)} {B : Int} {k : KD} {tl te tx : TE} {sO sI : Nat}
end
end AW

set_option linter.all false
set_option maxRecDepth 100000
set_option maxHeartbeats 4000000
namespace AW
open PySem PySem.Spec PyProof.Rows L2 RZ LamX
variable [Tbs]
section
variable {K : PySem.W.Frag} {E E' E1 : XK} {e : EW} {ρ : List (Option D)} {B : Int} {k : KD} {κ : KS} {κx : KX} {ta tb tl te : TE} {t : TA} {ts us : TS} {i j n : Nat} {O : OwL} {p : Addr} {es : List D}
end
end AW

set_option linter.all false
set_option maxRecDepth 100000
set_option maxHeartbeats 4000000
namespace AW
open PySem PySem.Spec PyProof.Rows L2 RZ LamX
variable [Tbs]
section
variable {K : PySem.W.Frag} {E E' E1 : XK} {e : EW} {ρ : List (Option D)} {B : Int} {k : KW} {κ : KS} {κx : KX} {ta tb tl te : TE} {t : TA} {s ts us : TS} {i j n : Nat} {O : OwL} {p a : Addr} {es ds : List D}
end
end AW

set_option linter.all false
set_option maxRecDepth 100000
set_option maxHeartbeats 4000000
namespace AW
open PySem PySem.Spec PyProof.Rows L2 RZ LamX
variable [Tbs]
/-- x in c by c's own __contains__ -/
theorem ro_inG {K : PySem.W.Frag} {E E' : XK} {e : EW} {B : Int} {k : KD} {pr : Pr} {C : Addr} {ns : List Str} {ds : List D} {d2 : D} {g : Bool → Bool} (h : pr [.ins C ns ds, d2] B (fun d B' => ∃ b, d = .bl b ∧ k (.bl (g b)) B') noE) : Ro K E e (rInO C (spD K pr) E' g) d2 (.ins C ns ds) B k := fun u v H G Q s r1 r2 _ q => by
  obtain ⟨p, dx, us, rfl, hp, _⟩ := id r2
  refine ⟨p, dx, _, rfl, s _ _ hp, G, [.ins C ns ds, d2], B, _, noE, s, ⟨_, _, rfl, r2, _, _, rfl, r1, rfl⟩, h, fun d v B' G' H' hz ee rr => ?_, XOk.no⟩
  obtain ⟨b, rfl, hz⟩ := hz
  exact ⟨b, rr, q _ _ _ _ _ hz ee rfl⟩
end AW

set_option linter.all false
set_option maxHeartbeats 2000000
namespace AW
open PySem PySem.Spec PyProof.Rows L2
variable [Tbs]
section
variable {P : Program} {w : World} {K : PySem.W.Frag} {mg : Str → Option Value} {base : Heap} {E E' : XK} {e : EW} {ρ : List (Option D)} {B : Int} {k : KD} {κ : KS} {t : TA} {i : Nat}
/-- the address of what stands in a variable -/
theorem ws_know {d : D} {s : TS} (h1 : ρ[i]? = some (some d)) (hr : AW.refD d = true) (h : ∀ a, Ws K E e s (ρ.set i (some (.at_ (.ref a) d))) B κ) : Ws K E e s ρ B κ := fun σ H G Dn sb en x q => by
  obtain ⟨v, hv, r⟩ := en.get h1
  obtain ⟨a, rfl⟩ := r.refD hr
  have e2 := EnvR.set (d := .at_ (.ref a) d) (v := .ref a) ⟨rfl, r⟩ i en
  rw [set_id hv] at e2
  exact h a σ H G Dn sb e2 x q
end
end AW

set_option linter.all false
set_option maxRecDepth 100000
set_option maxHeartbeats 4000000
namespace AW
open PySem PySem.Spec PyProof.Rows L2 RZ LamX
variable [Tbs]
section
variable {K : PySem.W.Frag} {E E' E1 : XK} {e : EW} {ρ : List (Option D)} {B : Int} {κ : KS} {κx : KX} {ta tb tl te : TE} {t : TA} {ts us : TS} {i j n : Nat} {O : OwL} {p : Addr} {es : List D} {k : KW}
/-- [..], owned -/
theorem wew_newlst (h : Wa K E e t ρ B fun ds B1 => ds.length ≤ sizeLine ∧ ∀ p, k (.val (.ref p)) ((p, .list ds) :: O) B1) : WeW K E e (tLst t) ρ B O k := fun σ H G G0 H0 B0 Q en ow ex x q =>
  h σ H G _ ex.sub en (x.ext ex) fun ds vs B1 G1 H1 ⟨hl, hk⟩ e1 r1 => ⟨by rw [← r1.length]; exact hl, fun p hp => q _ _ _ B1 G1 _ (hk p) e1.le ((ex.trans e1).trans (Ext.hid e1.sub hp)) rfl (owns_cons (ow.ext e1) (ex.trans e1) hp ⟨vs, upd_same, r1⟩)⟩
/-- list(y), owned -/
theorem wew_copyL (h : Wa K E e t ρ B fun as B1 => ∃ ds : List D, as = [.lst ds] ∧ ∀ p, k (.val (.ref p)) ((p, .list ds) :: O) B1) :
    WeW K E e (tCB (fun xs H Q => ∃ p ys, xs = [.ref p] ∧ (SqL K H p ys ∨ SqT K H p ys) ∧ ∀ l, H l = none → Q (.ref l) (upd H l (.lst ys))) t) ρ B O k := fun σ H G G0 H0 B0 Q en ow ex x q =>
  h σ H G _ ex.sub en (x.ext ex) fun as vs B1 G1 H1 ⟨ds, ed, hk⟩ e1 r1 => by
    subst ed
    obtain ⟨v, _, rfl, ⟨a, us0, rfl, ha, hr⟩, rfl⟩ := r1
    exact ⟨a, us0, rfl, .inl (SqL.of (e1.sub _ _ ha)), fun p np => q _ _ _ B1 G1 _ (hk p) e1.le ((ex.trans e1).trans (Ext.hid e1.sub np)) rfl (owns_cons (ow.ext e1) (ex.trans e1) np ⟨us0, upd_same, hr⟩)⟩
theorem RepL.erase {G : Hp} : ∀ {ds : List D} {vs : List V} (c : Nat), RepL K G B ds vs → RepL K G B (ds.eraseIdx c) (vs.eraseIdx c)
  | [], _, c, h => by rw [show _ = _ from h]; exact (show RepL K G B [] [] from rfl)
  | _ :: _, _, 0, ⟨v, r, e, h, hr⟩ => by rw [e]; exact hr
  | d :: ds, _, c + 1, ⟨v, r, e, h, hr⟩ => by rw [e]; exact ⟨v, r.eraseIdx c, rfl, h, RepL.erase c hr⟩
/-- l.pop(i), l owned -/
theorem wew_popAt (h : We K E e ta ρ B fun d B1 => ∃ p : Addr, d = .val (.ref p) ∧ (∃ es : List D, (p, OC.list es) ∈ O) ∧ WeW K E e tb ρ B1 O fun d2 O2 B2 => ∃ (n c : Nat) (es : List D) (y : D), d2 = .int c ∧ (c : Int) < 2 ^ 63 ∧ O2[n]? = some (p, OC.list es) ∧ es[c]? = some y ∧ k y (O2.set n (p, .list (es.eraseIdx c))) B2) : WeW K E e (tBM K "list" rPopAt ta (tCons tb tNil)) ρ B O k := fun σ H G G0 H0 B0 Q en ow ex x q =>
  h σ H G _ ex.sub en (x.ext ex) fun d v B1 G1 H1 ⟨p, ed, ⟨es0, hm⟩, h2⟩ e1 r1 => by
    subst ed
    rw [show v = _ from r1]
    have ow1 := ow.ext e1
    obtain ⟨_, _, vs0, hL0, _⟩ := ow1.at_ _ hm
    refine ⟨.inl ⟨rfl, vs0, SqL.of hL0⟩, h2 σ H1 G1 G0 H0 B0 _ (en.mono e1.le) ow1 (ex.trans e1) x fun d2 w O2 B2 G2 H2 ⟨n, c, es, y, ed, hc, hn, hy, hk⟩ l2 ex2 r2 ow2 => ?_⟩
    subst ed
    rw [show w = _ from r2]
    obtain ⟨np, gp, vs, hL, hr⟩ := own_at ow2 hn
    obtain ⟨u, hu, ru⟩ := hr.get hy
    have hlt := (List.getElem?_eq_some_iff.mp hu).1
    refine ⟨p, vs, c, c, u, rfl, rfl, hL, by omega, hc, ?_, hu, ?_⟩
    · unfold seqIndex?
      have e : (if (c : Int) < 0 then (c : Int) + vs.length else (c : Int)) = c := if_neg (by omega)
      simp only [e]
      rw [if_pos (by simp; omega)]
      rfl
    · exact q _ _ _ B2 G2 _ hk (e1.le.trans l2) (ex2.chgN np gp) ru (owns_set ow2 hn ⟨_, upd_same, RepL.erase c hr⟩)
/-- l.pop(), l owned -/
theorem wew_pop (h : We K E e ta ρ B fun d B1 => ∃ (p : Addr) (n : Nat) (es : List D) (y : D), d = .val (.ref p) ∧ O[n]? = some (p, OC.list (es ++ [y])) ∧ k y (O.set n (p, .list es)) B1) : WeW K E e (tBM0 K "list" rPop ta) ρ B O k := fun σ H G G0 H0 B0 Q en ow ex x q =>
  h σ H G _ ex.sub en (x.ext ex) fun d v B1 G1 H1 ⟨p, n, es, y, ed, hn, hk⟩ e1 r1 => by
    subst ed
    rw [show v = _ from r1]
    have ow1 := ow.ext e1
    obtain ⟨np, gp, vs, hL, hr⟩ := own_at ow1 hn
    have hlen := hr.length
    rw [List.length_append] at hlen
    have hlen : es.length + 1 = vs.length := hlen
    obtain ⟨u, hu, ru⟩ := hr.get (i := es.length) (d := y) (by rw [List.getElem?_append_right (Nat.le_refl _), Nat.sub_self]; rfl)
    refine ⟨.inl ⟨rfl, vs, SqL.of hL⟩, p, vs, u, rfl, rfl, hL, by rw [← hlen]; exact hu, ?_⟩
    have hr2 := RepL.take es.length hr
    rw [List.take_left'] at hr2
    · have e : vs.take es.length = vs.dropLast := by rw [List.dropLast_eq_take]; congr 1; omega
      rw [e] at hr2
      exact q _ _ _ B1 G1 _ hk e1.le ((ex.trans e1).chgN np gp) ru (owns_set ow1 hn ⟨_, upd_same, hr2⟩)
    · rfl
/-- for x in l, l known to stand at its address -/
theorem wx_for_listA {u : V} {ds : List D} {g : TG} {tbody : TS} (hj : ρ[j]? = some (some (.at_ u (.lst ds)))) (h : ∃ I : IX, I 0 ρ O B ∧ (∀ n ρ' O' B', I n ρ' O' B' → ρ'[j]? = some (some (.at_ u (.lst ds)))) ∧ (∀ n d ρ' O' B', ds[n]? = some d → I n ρ' O' B' → Wg K g d ρ' B' fun ρ2 B2 => WOw K E e tbody ρ2 B2 O' { nx := I (n + 1), rt := κx.rt, bk := κx.nx, ct := I (n + 1) }) ∧ ∀ ρ' O' B', I ds.length ρ' O' B' → κx.nx ρ' O' B') :
    WOw K E e (tFor (iList K (tVar j)) g tbody) ρ B O κx := fun σ H G Dn G0 H0 B0 en ow ex x q => by
  obtain ⟨v0, hv0, eu, a, vs, rfl, ha, hr⟩ := en.get hj
  subst eu
  obtain ⟨I, i0, hI, hs, hd⟩ := h
  have ha2 : SqL K H a vs := SqL.of (ex.sub _ _ ha)
  refine ⟨.ref a, hv0, a, rfl, ⟨vs, ha2⟩, ?_⟩
  refine ⟨fun i m σ H => m = ds.length - i ∧ i ≤ ds.length ∧ PX K I G0 H0 B0 i σ H, ⟨ds.length, by simp, Nat.zero_le _, ρ, O, B, G, i0, ex, en, ow⟩, ?_⟩
  rintro i m σ' H' ⟨rfl, hi, ρ', O', B', G', hI', e0, en2, ow2⟩
  obtain ⟨v1, hv1, rv1⟩ := en2.get (hI i ρ' O' B' hI')
  obtain ⟨ev, a', vs', ea, ha', hr'⟩ := rv1
  rw [ev] at ea
  cases ea
  have hq : SqL K H' a vs' := SqL.of (e0.sub _ _ ha')
  have hlen := hr'.length
  by_cases hlt : i < ds.length
  · refine .inr ⟨⟨vs', vs'[i], hq, by simp [show i < vs'.length by omega]⟩, PX K I G0 H0 B0 (i + 1), fun σ2 H2 p' => ⟨ds.length - (i + 1), by omega, rfl, hlt, p'⟩, fun y H'' hy => ?_⟩
    obtain ⟨eH, hy⟩ := hy
    subst eH
    obtain ⟨d, hdx, rx⟩ := hr'.get' (hy vs' hq)
    exact px_step hI' e0 en2 ow2 rx x q (hs i d ρ' O' B' hdx hI')
  · have e1 : i = ds.length := by omega
    subst e1
    exact .inl ⟨⟨vs', hq, by omega⟩, q.nx _ _ _ _ _ _ (hd _ _ _ hI') e0 en2 ow2⟩
end
end AW

set_option linter.all false
set_option maxHeartbeats 2000000
namespace AW
open PySem PySem.Spec PyProof.Rows L2
variable [Tbs]
section
variable {P : Program} {w : World} {K : PySem.W.Frag} {mg : Str → Option Value} {base : Heap} {E E1 : XK} {e : EW} {ρ : List (Option D)} {B : Int} {k : KD} {κ : KS} {t tk : TA} {te ta : TE} {tt : TT} {i j : Nat} {g1 g2 g3 : TG}
theorem lc_stepQ {I : Nat → List D → Int → Prop} {L : Addr} {G1 H1 G' : Hp} {B1 B' : Int} {σ : L2.St} {n : Nat} {x y : D} {v : V} {H' : Hp} {out : List D} {acc : List V} (hij : i ≠ j) (nL : H1 L = none) (sub1 : Sub G1 H1) (en : EnvR K G1 B1 ρ σ) (hl : out.length ≤ n) (hI : I n out B') (e2 : Ext G1 H1 B1 G' H' B') (gL : G' L = none) (hL : H' L = some (.lst acc)) (hr : RepL K G' B' out acc) (hi : n < sizeLine) (rv : Rep K G' B' (.tup [x, y]) v)
    (hs : ∀ out B', I n out B' → Wt K E1 noE tt ((((ρ.set j none).set i none).set i (some x)).set j (some y)) B' fun b B3 => (b = true → We K E1 noE te ((((ρ.set j none).set i none).set i (some x)).set j (some y)) B3 fun y B4 => I (n + 1) (out ++ [y]) B4) ∧ (b = false → I (n + 1) out B3)) :
    gTup K 2 (gCons (gName i) (gCons (gName j) gNil)) v (wipe σ [i, j]) H' fun σ2 H2 => wipe σ2 [i, j] = wipe σ [i, j] ∧ tt σ2 H2 fun b H3 => if b = true then te σ2 H3 fun y H4 => ∃ acc, H4 L = some (.lst acc) ∧ acc.length < sizeLine ∧ LcOk K (fun out B => out.length ≤ n + 1 ∧ I (n + 1) out B) L G1 H1 B1 (upd H4 L (.lst (acc ++ [y]))) else LcOk K (fun out B => out.length ≤ n + 1 ∧ I (n + 1) out B) L G1 H1 B1 H3 := by
  obtain ⟨T, ws, rfl, hT, v, _, rfl, rv, w, _, rfl, rw_, rfl⟩ := rv
  have hT2 : SqT K H' T [v, w] := (Le.of_sub (B := B1) (B' := B1) e2.sub (Int.le_refl _)).seqT hT
  refine ⟨T, [v, w], rfl, hT2, rfl, v, [w], rfl, w, [], rfl, rfl, ?_, ?_⟩
  · show ((((((σ.set j none).set i none).set i (some v)).set j (some w)).set j none).set i none) = (σ.set j none).set i none
    exact set_two σ hij (some v) (some v) (some w) none
  · have en2 : EnvR K G' B' ((((ρ.set j none).set i none).set i (some x)).set j (some y)) ((((σ.set j none).set i none).set i (some v)).set j (some w)) := EnvR.set rw_ j (EnvR.set rv i (EnvR.wipe1 i (EnvR.wipe1 j (en.mono e2.le))))
    refine hs out B' hI _ H' G' _ e2.sub en2 XOk.no fun b B3 G3 H3 h3 e3 => ?_
    cases b with
    | true =>
      rw [if_pos rfl]
      refine h3.1 rfl _ H3 G3 _ e3.sub (en2.mono e3.le) XOk.no fun y w B4 G4 H4 h4 e4 r4 => ?_
      obtain ⟨z1, z2⟩ := (e3.trans e4).fr L _ hL gL ⟨(fun _ z => nomatch z), fun _ z => nomatch z⟩
      refine ⟨acc, z1, by rw [← hr.length]; omega, out ++ [y], B4, G4, acc ++ [w], ⟨by rw [List.length_append, List.length_singleton]; omega, h4⟩, ?_, z2, upd_same, (hr.mono (e3.trans e4).le).append ⟨w, [], rfl, r4, rfl⟩⟩
      have eA := e2.trans (e3.trans e4)
      refine ⟨eA.le, fun a o z => ?_, fun a o z n t => ?_⟩
      · have : a ≠ L := fun q => by rw [q, z2] at z; cases z
        rw [upd_ne this]; exact eA.sub _ _ z
      · have : a ≠ L := ne_of_none z nL
        rw [upd_ne this]
        exact eA.fr _ _ z n t
    | false =>
      rw [if_neg Bool.false_ne_true]
      obtain ⟨z1, z2⟩ := e3.fr L _ hL gL ⟨(fun _ z => nomatch z), fun _ z => nomatch z⟩
      exact ⟨out, B3, G3, acc, ⟨Nat.le_succ_of_le hl, h3.2 rfl⟩, e2.trans e3, z2, z1, hr.mono e3.le⟩
/-- [f(i, x) for i, x in enumerate(a tuple) if p(i, x)] -/
theorem we_lc_enumT (hij : i ≠ j) (h : Wa K E e t ρ B fun as B1 => ∃ xs : List D, as = [.tup xs] ∧ xs.length < sizeLine ∧ ∃ I : Nat → List D → Int → Prop, I 0 [] B1 ∧
    (∀ (n : Nat) x out B', xs[n]? = some x → I n out B' → Wt K E1 noE tt ((((ρ.set j none).set i none).set i (some (.int (n : Nat)))).set j (some x)) B' fun b B3 => (b = true → We K E1 noE te ((((ρ.set j none).set i none).set i (some (.int (n : Nat)))).set j (some x)) B3 fun y B4 => I (n + 1) (out ++ [y]) B4) ∧ (b = false → I (n + 1) out B3)) ∧
    ∀ out B', out.length ≤ xs.length → I xs.length out B' → k (.lst out) B') :
    We K E e (tLc (iEnumT K t) (gTup K 2 (gCons (gName i) (gCons (gName j) gNil))) tt te [i, j]) ρ B k := fun σ H G Q s en x q =>
  h σ H G _ s en x fun as vs B1 G1 H1 ⟨xs, ed, hz, I, i0, hs, hd⟩ e1 r1 => by
    subst ed
    obtain ⟨_, _, rfl, ⟨a, us, rfl, ha, hr⟩, rfl⟩ := r1
    have hlen : us.length = xs.length := hr.length.symm
    have en1 := en.mono e1.le
    refine ⟨a, us, rfl, (Le.of_sub (B := B1) (B' := B1) e1.sub (Int.le_refl _)).seqT ha, fun L nL => ?_⟩
    refine ⟨fun n m H => m = us.length - n ∧ n ≤ us.length ∧ LcOk K (fun out B => out.length ≤ n ∧ I n out B) L G1 H1 B1 H, ⟨us.length, by simp, Nat.zero_le _, lc_start e1.sub nL ⟨Nat.le_refl _, i0⟩⟩, ?_⟩
    rintro n m H' ⟨rfl, hn, hP⟩
    obtain ⟨out, B', G', acc, ⟨hl, hI⟩, e2, gL, hL, hra⟩ := hP
    have qx : SqT K H' a us := (Le.of_sub (B := B') (B' := B') e2.sub (Int.le_refl _)).seqT (e2.le.seqT ha)
    by_cases hlt : n < us.length
    · have hx : us[n]? = some us[n] := List.getElem?_eq_getElem hlt
      refine .inr ⟨⟨us, _, qx, hx⟩, fun H2 => LcOk K (fun out B => out.length ≤ n + 1 ∧ I (n + 1) out B) L G1 H1 B1 H2, fun H2 p' => ⟨us.length - (n + 1), by omega, rfl, hlt, p'⟩, fun v H2 y => ?_⟩
      obtain ⟨b, x', rfl, hb, rfl, f1⟩ := y
      obtain ⟨dx, hdx, rx⟩ := hr.get' (f1 us qx)
      have e3 := Ext.new (B := B') (o := .tup [.int (n : Nat), x']) e2.sub hb
      have nb : L ≠ b := fun z => by rw [z, hb] at hL; cases hL
      refine lc_stepQ (I := I) (x := .int (n : Nat)) (y := dx) (v := .ref b) hij nL e1.sub en1 hl hI (e2.trans e3) (by rw [upd_ne nb]; exact gL) (by rw [upd_ne nb]; exact hL) (hra.mono e3.le) (by omega) ⟨b, [.int (n : Nat), x'], rfl, SqT.of upd_same, .int (n : Nat), [x'], rfl, rfl, x', [], rfl, (rx.mono e2.le).mono e3.le, rfl⟩ fun out B' h => hs n dx out B' hdx h
    · have e : n = us.length := by omega
      subst e
      refine .inl ⟨⟨us, qx, Nat.le_refl _⟩, ?_⟩
      refine lc_end e1 nL (show LcOk K (fun out B => out.length ≤ us.length ∧ I us.length out B) L G1 H1 B1 H' from ⟨out, B', G', acc, ⟨hl, hI⟩, e2, gL, hL, hra⟩) (fun out B' hI => ?_) q
      obtain ⟨h1, h2⟩ := hI
      rw [hlen] at h1 h2
      exact hd _ _ h1 h2
/-- min(a list of ints that is not empty, default=d) -/
theorem we_minD (h : Wa K E e t ρ B fun ds B1 => Wa K E e tk ρ B1 fun zs B2 => ∃ (ns : List Int) (m : Int) (d : D), ds = [.lst (ns.map D.int)] ∧ zs = [d] ∧ m ∈ ns ∧ (∀ y ∈ ns, m ≤ y) ∧ k (.int m) B2) : We K E e (tCKw (RM.rMinD K) t tk) ρ B k := fun σ H G Q s en x q =>
  h σ H G _ s en x fun ds vs B1 G1 H1 h1 e1 r1 => h1 σ H1 G1 _ e1.sub (en.mono e1.le) (x.ext e1) fun zs ws B2 G2 H2 ⟨ns, m, d, ed, ez, hm, hl, hk⟩ e2 r2 => by
    subst ed ez
    obtain ⟨z, _, rfl, _, rfl⟩ := r2
    obtain ⟨v, _, rfl, ⟨a, us, rfl, ha, hr⟩, rfl⟩ := r1
    have ev : us = ns.map V.int := RepL.intsV ns hr
    subst ev
    have e12 := e1.trans e2
    refine ⟨⟨z, rfl⟩, a, ns, rfl, SqL.of (e2.sub _ _ (e2.le.keep _ _ ha (fun z => nomatch z))), List.length_pos_of_mem hm, fun m' h1 h2 => ?_⟩
    have e3 : m' = m := by have := hl m' h1; have := h2 m hm; omega
    rw [e3]
    exact q _ _ _ _ _ hk e12 rfl
/-- x = y = z = e -/
theorem ws_asg3 {l : Nat} (h : We K E e ta ρ B fun d B1 => κ.nx (((ρ.set i (some d)).set j (some d)).set l (some d)) B1) : Ws K E e (tAsg3 ta (gName i) (gName j) (gName l)) ρ B κ := fun σ H G Dn s en x q =>
  h σ H G _ s en x fun d v B1 G1 H1 h1 e1 r1 => q.nx _ _ _ _ _ h1 e1 (EnvR.set r1 l (EnvR.set r1 j (EnvR.set r1 i (en.mono e1.le))))
end
end AW

set_option linter.all false
set_option maxHeartbeats 2000000
namespace AW
open PySem PySem.Spec PyProof.Rows L2
variable [Tbs]
section
variable {P : Program} {w : World} {K : PySem.W.Frag} {mg : Str → Option Value} {base : Heap} {E E1 : XK} {e : EW} {ρ : List (Option D)} {B : Int} {O : OwL} {k : KW} {κx : KX} {t : TA} {te tl : TE} {tt : TT} {g : TG} {tbody : TS}
/-- [f(x) for x in a list], the list owned -/
theorem wew_lcA {sl : Nat} (h : We K E e tl ρ B fun d B1 => ∃ ds, d = .lst ds ∧ ds.length < sizeLine ∧ ∃ I : Nat → List D → Int → Prop, I 0 [] B1 ∧
    (∀ i x out B', ds[i]? = some x → I i out B' → Wt K E1 noE tt ((ρ.set sl none).set sl (some x)) B' fun b B3 => (b = true → We K E1 noE te ((ρ.set sl none).set sl (some x)) B3 fun y B4 => I (i + 1) (out ++ [y]) B4) ∧ (b = false → I (i + 1) out B3)) ∧
    ∀ out B', out.length ≤ ds.length → I ds.length out B' → ∀ p, k (.val (.ref p)) ((p, .list out) :: O) B') : WeW K E e (tLc (iList K tl) (gName sl) tt te [sl]) ρ B O k := fun σ H G G0 H0 B0 Q en ow ex x q =>
  h σ H G _ ex.sub en (x.ext ex) fun d v B1 G1 H1 ⟨ds, ed, dl, I, i0, hs, hd⟩ e1 r1 => by
    subst ed
    obtain ⟨a, vs, rfl, ha, hr⟩ := r1
    refine ⟨a, rfl, ⟨vs, SqL.of (e1.sub _ _ ha)⟩, fun L nL => ?_⟩
    have ow1 := ow.ext e1
    have ex1 := ex.trans e1
    refine lc_list (xs := vs) (fun i H' => LcOk K (fun out B => out.length ≤ i ∧ I i out B) L G1 H1 B1 H') (lc_start e1.sub nL ⟨Nat.le_refl _, i0⟩) (fun i H' _ z => SqL.of (z.kept ha nopen_lst)) ?_ ?_
    · intro i y H' hi hz
      obtain ⟨dx, hdx, rx⟩ := hr.get' hi
      have hlt : i < ds.length := (List.getElem?_eq_some_iff.mp hdx).1
      exact lc_step nL e1.sub (en.mono e1.le) hz (by omega) rx (fun out B' hI => hs i dx out B' hdx hI)
    · intro H' hz
      obtain ⟨out, B', G', acc, hI, e2, gL, hL, hr2⟩ := hz
      rw [← hr.length] at hI
      have ow2 := ow1.ext e2
      refine q _ _ _ B' G' H' (hd out B' hI.1 hI.2 L) (e1.trans e2).le (ex1.trans e2) rfl ⟨List.nodup_cons.mpr ⟨fun hm => ?_, ow2.nd⟩, fun z hz => ?_⟩
      · obtain ⟨c, hc, ec⟩ := List.mem_map.mp hm
        obtain ⟨u, hu⟩ := (ow1.at_ c hc).2.2.some
        have ec : c.1 = L := ec
        rw [ec, nL] at hu; cases hu
      · rcases List.mem_cons.mp hz with rfl | hz
        · exact ⟨noH0 ex1 nL, gL, acc, hL, hr2⟩
        · exact ow2.at_ z hz
theorem wx_for_range1W (h : WaW K E e t ρ B O fun as O1 B1 => ∃ m : Int, as = [.int m] ∧ -(2 ^ 62) ≤ m ∧ m < 2 ^ 62 ∧ ∃ I : IX, I 0 ρ O1 B1 ∧ (∀ n ρ' O' B', n < m.toNat → I n ρ' O' B' → Wg K g (.int (0 + n)) ρ' B' fun ρ2 B2 => WOw K E e tbody ρ2 B2 O' { nx := I (n + 1), rt := κx.rt, bk := κx.nx, ct := I (n + 1) }) ∧ ∀ ρ' O' B', I m.toNat ρ' O' B' → κx.nx ρ' O' B') :
    WOw K E e (tFor (iRng1 t) g tbody) ρ B O κx := fun σ H G Dn G0 H0 B0 en ow ex x q =>
  h σ H G G0 H0 B0 _ en ow ex x fun as vs O1 B1 G1 H1 ⟨m, ed, m0, m1, I, i0, hs, hd⟩ l1 ex1 r1 ow1 => by
    subst ed
    obtain ⟨v, _, rfl, rv, rfl⟩ := r1
    rw [show v = _ from rv]
    refine ⟨m, rfl, m0, m1, for_it walk_range (PX K I G0 H0 B0) ⟨ρ, O1, B1, G1, i0, ex1, en.mono l1, ow1⟩ (fun _ _ _ _ _ => trivial) ?_ ?_⟩
    · rintro n y σ' H' H'' hn ⟨ρ', O', B', G', hI, e0, en2, ow2⟩ ⟨eH, ey⟩
      subst eH ey
      exact px_step (d := .int (0 + n)) hI e0 en2 ow2 rfl x q (hs n ρ' O' B' hn hI)
    · rintro σ' H' ⟨ρ', O', B', G', hI, e0, en2, ow2⟩
      exact q.nx _ _ _ _ _ _ (hd _ _ _ hI) e0 en2 ow2
end
end AW

set_option linter.all false
set_option maxHeartbeats 4000000
namespace Tbl
abbrev P3 := Int × Int × Int
def mu (p q : P3) : P3 := (p.1 + q.1, p.2.1 + q.2.1, p.2.2 + q.2.2 + p.1 * q.2.1)
def iv (p : P3) : P3 := (-p.1, -p.2.1, p.1 * p.2.1 - p.2.2)
def tr (n : Int) : Int := n * (n - 1) / 2
def pw (p : P3) (n : Int) : P3 := (n * p.1, n * p.2.1, n * p.2.2 + p.1 * p.2.1 * tr n)
abbrev e0 : P3 := (0, 0, 0)
abbrev zz (c : Int) : P3 := (0, 0, c)
theorem tr2 (n : Int) : 2 * tr n = n * n - n := by
  unfold tr
  have e : n * (n - 1) = n * n - n := by rw [Int.mul_sub, Int.mul_one]
  rw [e]
  have h : (n * n - n) % 2 = 0 := by
    rcases Int.emod_two_eq n with h | h
    · have : n * n % 2 = 0 := by rw [Int.mul_emod, h]; rfl
      omega
    · have : n * n % 2 = 1 := by rw [Int.mul_emod, h]; rfl
      omega
  omega
theorem p3_ext {p q : P3} (h1 : p.1 = q.1) (h2 : p.2.1 = q.2.1) (h3 : p.2.2 = q.2.2) : p = q := Prod.ext h1 (Prod.ext h2 h3)
theorem mu_assoc (p q r : P3) : mu (mu p q) r = mu p (mu q r) := p3_ext (by simp only [mu]; omega) (by simp only [mu]; omega) (by simp only [mu]; grind)
theorem mu_e0 (p : P3) : mu p e0 = p := p3_ext (by simp [mu]) (by simp [mu]) (by simp [mu])
theorem e0_mu (p : P3) : mu e0 p = p := p3_ext (by simp [mu]) (by simp [mu]) (by simp [mu])
theorem mu_iv (p : P3) : mu p (iv p) = e0 := p3_ext (by simp only [mu, iv]; omega) (by simp only [mu, iv]; omega) (by simp only [mu, iv]; grind)
theorem iv_mu (p : P3) : mu (iv p) p = e0 := p3_ext (by simp only [mu, iv]; omega) (by simp only [mu, iv]; omega) (by simp only [mu, iv]; grind)
theorem pw_add (p : P3) (m n : Int) : mu (pw p m) (pw p n) = pw p (m + n) := by
  have h1 := tr2 m
  have h2 := tr2 n
  have h3 := tr2 (m + n)
  have h4 : tr (m + n) = tr m + tr n + m * n := by grind
  refine p3_ext ?_ ?_ ?_
  · simp only [mu, pw]; grind
  · simp only [mu, pw]; grind
  · simp only [mu, pw]; rw [h4]; grind
theorem pw_0 (p : P3) : pw p 0 = e0 := by
  have : tr 0 = 0 := by decide
  exact p3_ext (by simp [pw]) (by simp [pw]) (by simp [pw, this])
theorem pw_1 (p : P3) : pw p 1 = p := by
  have : tr 1 = 0 := by decide
  exact p3_ext (by simp [pw]) (by simp [pw]) (by simp [pw, this])
theorem iv_uniq {p q : P3} (h : mu p q = e0) : q = iv p := by
  have : mu (iv p) (mu p q) = mu (iv p) e0 := by rw [h]
  rw [← mu_assoc, iv_mu, e0_mu, mu_e0] at this
  exact this
theorem pw_neg (p : P3) (n : Int) : pw p (-n) = iv (pw p n) := iv_uniq (by rw [pw_add, Int.add_right_neg, pw_0])
theorem iv_pw1 (p : P3) : pw p (-1) = iv p := by rw [pw_neg, pw_1]
theorem iv_iv (p : P3) : iv (iv p) = p := (iv_uniq (iv_mu p)).symm
theorem iv_e0 : iv e0 = e0 := by simp [iv]
theorem iv_mul (p q : P3) : iv (mu p q) = mu (iv q) (iv p) := (iv_uniq (by rw [mu_assoc, ← mu_assoc q, mu_iv, e0_mu, mu_iv])).symm
/-- closed under products and ways back -/
structure Sb (U : P3 → Prop) : Prop where
  one : U e0
  mul : ∀ p q, U p → U q → U (mu p q)
  inv : ∀ p, U p → U (iv p)
theorem Sb.pwN {U : P3 → Prop} (h : Sb U) {p : P3} (hp : U p) : ∀ n : Nat, U (pw p n)
  | 0 => by
    have := pw_0 p
    rw [show ((0 : Nat) : Int) = 0 from rfl, this]
    exact h.one
  | n + 1 => by
    have e : pw p ((n + 1 : Nat) : Int) = mu (pw p n) p := by
      conv => rhs; rhs; rw [← pw_1 p]
      rw [pw_add]; push_cast; rfl
    rw [e]
    exact h.mul _ _ (h.pwN hp n) hp
theorem Sb.pw {U : P3 → Prop} (h : Sb U) {p : P3} (hp : U p) (n : Int) : U (pw p n) := by
  obtain ⟨m, rfl | rfl⟩ := Int.eq_nat_or_neg n
  · exact h.pwN hp m
  · rw [pw_neg]; exact h.inv _ (h.pwN hp m)
def Gen (S : List P3) (p : P3) : Prop := ∀ U, Sb U → (∀ s ∈ S, U s) → U p
theorem gen_sb (S : List P3) : Sb (Gen S) := ⟨fun U h _ => h.one, fun p q hp hq U h k => h.mul _ _ (hp U h k) (hq U h k), fun p hp U h k => h.inv _ (hp U h k)⟩
theorem gen_mem {S : List P3} {s : P3} (h : s ∈ S) : Gen S s := fun U _ k => k s h
theorem gen_le {S S' : List P3} (h : ∀ s ∈ S, Gen S' s) {p : P3} (hp : Gen S p) : Gen S' p := hp _ (gen_sb S') h
/-- a table's rows and home number are as they are told -/
def Led (L : List P3) (c : Int) : Prop := 0 ≤ c ∧ (0 < c → ∀ r ∈ L, 0 ≤ r.2.2 ∧ r.2.2 < c) ∧
  (L = [] ∨ (∃ r, L = [r] ∧ (0 < r.1 ∨ r.1 = 0 ∧ 0 < r.2.1)) ∨ ∃ r s, L = [r, s] ∧ s.1 = 0 ∧ 0 < r.1 ∧ 0 < s.2.1 ∧ 0 ≤ r.2.1 ∧ r.2.1 < s.2.1 ∧ 0 < c ∧ c ∣ r.1 * s.2.1)
/-- in the table -/
def InT (L : List P3) (c : Int) (p : P3) : Prop := match L with
  | [] => ∃ k, p = zz (k * c)
  | [r] => ∃ n k, p = mu (pw r n) (zz (k * c))
  | r :: s :: _ => ∃ m n k, p = mu (mu (pw r m) (pw s n)) (zz (k * c))
theorem mu_zz (p : P3) (a : Int) : mu p (zz a) = (p.1, p.2.1, p.2.2 + a) := p3_ext (by simp [mu]) (by simp [mu]) (by simp [mu])
theorem zz_mu (p : P3) (a : Int) : mu (zz a) p = (p.1, p.2.1, a + p.2.2) := p3_ext (by simp [mu]) (by simp [mu]) (by simp [mu])
theorem zz_com (p : P3) (a : Int) : mu (zz a) p = mu p (zz a) := by rw [mu_zz, zz_mu, Int.add_comm]
theorem zz_add (a b : Int) : mu (zz a) (zz b) = zz (a + b) := p3_ext (by simp [mu]) (by simp [mu]) (by simp [mu])
theorem iv_zz (a : Int) : iv (zz a) = zz (-a) := p3_ext (by simp [iv]) (by simp [iv]) (by simp [iv])
theorem pw_zz (a n : Int) : pw (zz a) n = zz (n * a) := p3_ext (by simp [pw]) (by simp [pw]) (by simp [pw])
/-- two places in the other order -/
theorem mu_swap (p q : P3) : mu q p = mu (mu p q) (zz (q.1 * p.2.1 - p.1 * q.2.1)) := by rw [mu_zz]; exact p3_ext (by simp only [mu]; omega) (by simp only [mu]; omega) (by simp only [mu]; grind)
theorem int_iv {L : List P3} {c : Int} (hL : Led L c) {p : P3} (hp : InT L c p) : InT L c (iv p) := by
  obtain ⟨c0, ha, rfl | ⟨r, rfl, hr⟩ | ⟨r, s, rfl, sx, rp, sp, q0, q1, cp, hd⟩⟩ := hL
  · obtain ⟨k, rfl⟩ := hp
    exact ⟨-k, by rw [iv_zz, Int.neg_mul]⟩
  · obtain ⟨n, k, rfl⟩ := hp
    exact ⟨-n, -k, by rw [iv_mul, iv_zz, zz_com, pw_neg, Int.neg_mul]⟩
  · obtain ⟨m, n, k, rfl⟩ := hp
    obtain ⟨d, hd⟩ := hd
    refine ⟨-m, -n, -k + -(n * m) * d, ?_⟩
    rw [iv_mul, iv_zz, zz_com, iv_mul, ← pw_neg, ← pw_neg, mu_swap (pw r (-m)) (pw s (-n)), mu_assoc, zz_add]
    congr 1
    have e : (pw s (-n)).1 * (pw r (-m)).2.1 - (pw r (-m)).1 * (pw s (-n)).2.1 = -(n * m) * (c * d) := by
      rw [← hd]
      show (-n * s.1) * (-m * r.2.1) - (-m * r.1) * (-n * s.2.1) = _
      rw [sx]; grind
    rw [e]
    congr 2
    grind
theorem int_mul {L : List P3} {c : Int} (hL : Led L c) {p q : P3} (hp : InT L c p) (hq : InT L c q) : InT L c (mu p q) := by
  obtain ⟨c0, ha, rfl | ⟨r, rfl, hr⟩ | ⟨r, s, rfl, sx, rp, sp, q0, q1, cp, hd⟩⟩ := hL
  · obtain ⟨k, rfl⟩ := hp
    obtain ⟨l, rfl⟩ := hq
    exact ⟨k + l, by rw [zz_add, Int.add_mul]⟩
  · obtain ⟨n, k, rfl⟩ := hp
    obtain ⟨m, l, rfl⟩ := hq
    refine ⟨n + m, k + l, ?_⟩
    rw [mu_assoc, ← mu_assoc (zz (k * c)), zz_com, mu_assoc, zz_add, ← mu_assoc, pw_add, Int.add_mul]
  · obtain ⟨m, n, k, rfl⟩ := hp
    obtain ⟨m', n', k', rfl⟩ := hq
    obtain ⟨d, hd⟩ := hd
    refine ⟨m + m', n + n', k + k' + (-(n * m')) * d, ?_⟩
    have e : mu (mu (mu (pw r m) (pw s n)) (zz (k * c))) (mu (mu (pw r m') (pw s n')) (zz (k' * c))) = mu (mu (mu (pw r m) (mu (pw s n) (pw r m'))) (pw s n')) (zz (k * c + k' * c)) := by
      rw [mu_assoc _ (zz (k * c)), ← mu_assoc (zz (k * c)), zz_com, mu_assoc _ (zz (k * c)), zz_add]
      simp only [mu_assoc]
    rw [e, mu_swap (pw r m') (pw s n)]
    have e2 : (pw s n).1 * (pw r m').2.1 - (pw r m').1 * (pw s n).2.1 = -(n * m') * (c * d) := by
      rw [← hd]
      show (n * s.1) * (m' * r.2.1) - (m' * r.1) * (n * s.2.1) = _
      rw [sx]; grind
    rw [e2]
    have e3 : ∀ a b : Int, mu (mu (mu (pw r m) (mu (mu (pw r m') (pw s n)) (zz a))) (pw s n')) (zz b) = mu (mu (mu (pw r m) (pw r m')) (mu (pw s n) (pw s n'))) (zz (a + b)) := fun a b => by
      rw [← zz_add]
      simp only [mu_assoc]
      rw [← mu_assoc (zz a) (pw s n'), zz_com, mu_assoc]
    rw [e3, pw_add, pw_add]
    congr 2
    grind
theorem int_one (L : List P3) (c : Int) : InT L c e0 := by
  match L with
  | [] => exact ⟨0, by simp⟩
  | [r] => exact ⟨0, 0, by rw [pw_0]; simp [mu]⟩
  | r :: s :: _ => exact ⟨0, 0, 0, by rw [pw_0, pw_0]; simp [mu]⟩
theorem int_sb {L : List P3} {c : Int} (hL : Led L c) : Sb (InT L c) := ⟨int_one L c, fun _ _ => int_mul hL, fun _ => int_iv hL⟩
theorem int_home (L : List P3) (c k : Int) : InT L c (zz (k * c)) := by
  match L with
  | [] => exact ⟨k, rfl⟩
  | [r] => exact ⟨0, k, by rw [pw_0, e0_mu]⟩
  | r :: s :: _ => exact ⟨0, 0, k, by rw [pw_0, pw_0, e0_mu, e0_mu]⟩
theorem int_row {L : List P3} {c : Int} (hL : Led L c) {r : P3} (h : r ∈ L) : InT L c r := by
  obtain ⟨c0, ha, rfl | ⟨r1, rfl, hr⟩ | ⟨r1, s, rfl, _⟩⟩ := hL
  · cases h
  · rw [List.mem_singleton] at h
    subst h
    exact ⟨1, 0, by rw [pw_1, Int.zero_mul]; exact (mu_e0 _).symm⟩
  · simp only [List.mem_cons, List.not_mem_nil, or_false] at h
    rcases h with rfl | rfl
    · exact ⟨1, 0, 0, by rw [pw_1, pw_0, Int.zero_mul, mu_e0]; exact (mu_e0 _).symm⟩
    · exact ⟨0, 1, 0, by rw [pw_1, pw_0, Int.zero_mul, e0_mu]; exact (mu_e0 _).symm⟩
theorem int_min {L : List P3} {c : Int} {U : P3 → Prop} (hU : Sb U) (hr : ∀ r ∈ L, U r) (hc : U (zz c)) {p : P3} (hp : InT L c p) : U p := by
  have hz : ∀ k : Int, U (zz (k * c)) := fun k => by rw [← pw_zz]; exact hU.pw hc k
  match L, hr, hp with
  | [], hr, hp =>
    obtain ⟨k, rfl⟩ := hp
    exact hz k
  | [r], hr, hp =>
    obtain ⟨n, k, rfl⟩ := hp
    exact hU.mul _ _ (hU.pw (hr r (by simp)) n) (hz k)
  | r :: s :: _, hr, hp =>
    obtain ⟨m, n, k, rfl⟩ := hp
    exact hU.mul _ _ (hU.mul _ _ (hU.pw (hr r (by simp)) m) (hU.pw (hr s (by simp)) n)) (hz k)
/-- a table is what its rows and its home place make -/
theorem int_gen {L : List P3} {c : Int} (hL : Led L c) (p : P3) : InT L c p ↔ Gen (L ++ [zz c]) p := by
  constructor
  · intro h
    exact int_min (gen_sb _) (fun r hr => gen_mem (List.mem_append_left _ hr)) (gen_mem (by simp)) h
  · intro h
    refine h _ (int_sb hL) fun s hs => ?_
    rcases List.mem_append.mp hs with hs | hs
    · exact int_row hL hs
    · rw [List.mem_singleton.mp hs]
      have := int_home L c 1
      rwa [Int.one_mul] at this
theorem led_len {L : List P3} {c : Int} (hL : Led L c) : L.length ≤ 2 := by
  obtain ⟨_, _, rfl | ⟨r, rfl, _⟩ | ⟨r, s, rfl, _⟩⟩ := hL <;> simp
/-- what of the table lies over home -/
theorem int_zz {L : List P3} {c : Int} (hL : Led L c) (a : Int) : InT L c (zz a) ↔ c ∣ a := by
  constructor
  · intro h
    obtain ⟨c0, ha, rfl | ⟨r, rfl, hr⟩ | ⟨r, s, rfl, sx, rp, sp, q0, q1, cp, hd⟩⟩ := hL
    · obtain ⟨k, h⟩ := h
      have := congrArg (·.2.2) h
      exact ⟨k, by rw [Int.mul_comm]; exact this⟩
    · obtain ⟨n, k, h⟩ := h
      rw [mu_zz] at h
      have h1 : (0 : Int) = n * r.1 := congrArg (·.1) h
      have h2 : (0 : Int) = n * r.2.1 := congrArg (·.2.1) h
      have h3 : a = (n * r.2.2 + r.1 * r.2.1 * tr n) + k * c := congrArg (·.2.2) h
      have n0 : n = 0 := by
        rcases hr with h | ⟨_, h⟩
        · rcases Int.mul_eq_zero.mp h1.symm with h' | h' <;> omega
        · rcases Int.mul_eq_zero.mp h2.symm with h' | h' <;> omega
      subst n0
      have : tr 0 = 0 := by decide
      rw [this] at h3
      exact ⟨k, by rw [h3]; grind⟩
    · obtain ⟨m, n, k, h⟩ := h
      rw [mu_zz] at h
      have h1 : (0 : Int) = m * r.1 + n * s.1 := congrArg (·.1) h
      have h2 : (0 : Int) = m * r.2.1 + n * s.2.1 := congrArg (·.2.1) h
      have h3 : a = ((m * r.2.2 + r.1 * r.2.1 * tr m) + (n * s.2.2 + s.1 * s.2.1 * tr n) + m * r.1 * (n * s.2.1)) + k * c := congrArg (·.2.2) h
      rw [sx, Int.mul_zero, Int.add_zero] at h1
      have m0 : m = 0 := by rcases Int.mul_eq_zero.mp h1.symm with h' | h' <;> omega
      subst m0
      rw [Int.zero_mul, Int.zero_add] at h2
      have n0 : n = 0 := by rcases Int.mul_eq_zero.mp h2.symm with h' | h' <;> omega
      subst n0
      have : tr 0 = 0 := by decide
      rw [this] at h3
      exact ⟨k, by rw [h3]; grind⟩
  · rintro ⟨k, rfl⟩
    rw [Int.mul_comm]
    exact int_home L c k
theorem dvd_eq {a b : Int} (ha : 0 ≤ a) (hb : 0 ≤ b) (h1 : a ∣ b) (h2 : b ∣ a) : a = b := Int.dvd_antisymm ha hb h1 h2
theorem red_eq {a b c : Int} (hc : c ∣ a - b) (ha : 0 < c → 0 ≤ a ∧ a < c) (hb : 0 < c → 0 ≤ b ∧ b < c) (c0 : 0 ≤ c) : a = b := by
  rcases Int.lt_or_eq_of_le c0 with h | h
  · obtain ⟨k, hk⟩ := hc
    have h1 := ha h
    have h2 := hb h
    have : k = 0 := by
      rcases Int.lt_trichotomy k 0 with hk' | hk' | hk'
      · have := Int.mul_le_mul_of_nonneg_left (show k ≤ -1 by omega) c0
        omega
      · exact hk'
      · have := Int.mul_le_mul_of_nonneg_left (show 1 ≤ k by omega) c0
        omega
    subst this
    omega
  · subst h
    have := Int.zero_dvd.mp hc
    omega
end Tbl

set_option linter.all false
set_option maxHeartbeats 4000000
namespace Tbl
theorem int_1 {r : P3} {c : Int} {p : P3} (h : InT [r] c p) : ∃ n k, p.1 = n * r.1 ∧ p.2.1 = n * r.2.1 ∧ p.2.2 = (n * r.2.2 + r.1 * r.2.1 * tr n) + k * c := by
  obtain ⟨n, k, rfl⟩ := h
  exact ⟨n, k, by rw [mu_zz]; rfl, by rw [mu_zz]; rfl, by rw [mu_zz]; rfl⟩
theorem int_2 {r s : P3} {c : Int} {p : P3} (sx : s.1 = 0) (h : InT [r, s] c p) : ∃ m n k, p.1 = m * r.1 ∧ p.2.1 = m * r.2.1 + n * s.2.1 ∧ p.2.2 = ((m * r.2.2 + r.1 * r.2.1 * tr m) + n * s.2.2 + m * r.1 * (n * s.2.1)) + k * c := by
  obtain ⟨m, n, k, rfl⟩ := h
  refine ⟨m, n, k, ?_, ?_, ?_⟩
  · rw [mu_zz]; show m * r.1 + n * s.1 = _; rw [sx]; omega
  · rw [mu_zz]; rfl
  · rw [mu_zz]
    show m * r.2.2 + r.1 * r.2.1 * tr m + (n * s.2.2 + s.1 * s.2.1 * tr n) + m * r.1 * (n * s.2.1) + k * c = _
    rw [sx]; grind
theorem mul_one_pos {a b : Int} (h : a * b = 1) : (a = 1 ∧ b = 1) ∨ (a = -1 ∧ b = -1) := by
  have h1 : a.natAbs * b.natAbs = 1 := by rw [← Int.natAbs_mul, h]; rfl
  have h2 : a.natAbs = 1 := Nat.eq_one_of_mul_eq_one_right h1
  have h3 : a = 1 ∨ a = -1 := by omega
  rcases h3 with h3 | h3
  · subst h3; left; omega
  · subst h3; right; omega
theorem pos_eq {a b m n : Int} (ha : 0 < a) (hb : 0 < b) (h1 : a = m * b) (h2 : b = n * a) : a = b := Int.dvd_antisymm (by omega) (by omega) ⟨n, by rw [h2]; exact Int.mul_comm ..⟩ ⟨m, by rw [h1]; exact Int.mul_comm ..⟩
theorem red_mul {a b s n : Int} (hs : 0 < s) (h : a - b = n * s) (ha : 0 ≤ a ∧ a < s) (hb : 0 ≤ b ∧ b < s) : n = 0 ∧ a = b := by
  have := red_eq (c := s) ⟨n, by rw [h]; exact Int.mul_comm ..⟩ (fun _ => ha) (fun _ => hb) (by omega)
  subst this
  refine ⟨?_, rfl⟩
  rw [Int.sub_self] at h
  rcases Int.mul_eq_zero.mp h.symm with h | h <;> omega
/-- one table is told in one way only -/
theorem led_uniq {L L' : List P3} {c c' : Int} (h : Led L c) (h' : Led L' c') (he : ∀ p, InT L c p ↔ InT L' c' p) : L = L' ∧ c = c' := by
  have hc : c = c' := by
    refine dvd_eq h.1 h'.1 ?_ ?_
    · exact (int_zz h c').mp ((he _).mpr ((int_zz h' c').mpr (Int.dvd_refl _)))
    · exact (int_zz h' c).mp ((he _).mp ((int_zz h c).mpr (Int.dvd_refl _)))
  subst hc
  refine ⟨?_, rfl⟩
  have mem : ∀ r ∈ L, InT L' c r := fun r hr => (he r).mp (int_row h hr)
  have mem' : ∀ r ∈ L', InT L c r := fun r hr => (he r).mpr (int_row h' hr)
  have ar := h.2.1
  have ar' := h'.2.1
  have c0 := h.1
  have tr1 : tr 1 = 0 := by decide
  have tr0 : tr 0 = 0 := by decide
  rcases h.2.2 with rfl | ⟨r, rfl, hr⟩ | ⟨r, s, rfl, sx, rp, sp, q0, q1, cp, hd⟩
  · rcases h'.2.2 with rfl | ⟨r', rfl, hr'⟩ | ⟨r', s', rfl, sx', rp', sp', _⟩
    · rfl
    · obtain ⟨k, e⟩ := mem' r' (by simp)
      rw [e] at hr'
      exact absurd hr' (by simp)
    · obtain ⟨k, e⟩ := mem' r' (by simp)
      rw [e] at rp'
      exact absurd rp' (by simp)
  · rcases h'.2.2 with rfl | ⟨r', rfl, hr'⟩ | ⟨r', s', rfl, sx', rp', sp', _⟩
    · obtain ⟨k, e⟩ := mem r (by simp)
      rw [e] at hr
      exact absurd hr (by simp)
    · obtain ⟨n, k, e1, e2, e3⟩ := int_1 (mem' r' (by simp))
      obtain ⟨m, l, f1, f2, f3⟩ := int_1 (mem r (by simp))
      have hmn : m * n = 1 := by
        rcases hr with hp | ⟨hz, hp⟩
        · have : r.1 = m * n * r.1 := by rw [Int.mul_assoc, ← e1]; exact f1
          have h2 : (m * n - 1) * r.1 = 0 := by rw [Int.sub_mul, ← this]; omega
          rcases Int.mul_eq_zero.mp h2 with h | h <;> omega
        · have : r.2.1 = m * n * r.2.1 := by rw [Int.mul_assoc, ← e2]; exact f2
          have h2 : (m * n - 1) * r.2.1 = 0 := by rw [Int.sub_mul, ← this]; omega
          rcases Int.mul_eq_zero.mp h2 with h | h <;> omega
      have hn : n = 1 := by
        rcases mul_one_pos hmn with ⟨_, h⟩ | ⟨_, h⟩
        · exact h
        · subst h
          exfalso
          rcases hr with h1 | ⟨h1, h2⟩ <;> rcases hr' with h3 | ⟨h3, h4⟩ <;> omega
      subst hn
      rw [tr1] at e3
      have e4 : r'.2.2 = r.2.2 := by
        refine red_eq (c := c) ⟨k, ?_⟩ (fun hp => ar' hp r' (by simp)) (fun hp => ar hp r (by simp)) c0
        rw [e3]; grind
      rw [show r = r' from p3_ext (by omega) (by omega) e4.symm]
    · exfalso
      obtain ⟨n, k, e1, e2, _⟩ := int_1 (mem' r' (by simp))
      obtain ⟨m, l, f1, f2, _⟩ := int_1 (mem' s' (by simp))
      rw [sx'] at f1
      have hr1 : r.1 ≠ 0 := fun h => by rw [h, Int.mul_zero] at e1; omega
      have m0 : m = 0 := by rcases Int.mul_eq_zero.mp f1.symm with h | h; exact h; exact absurd h hr1
      subst m0
      omega
  · rcases h'.2.2 with rfl | ⟨r', rfl, hr'⟩ | ⟨r', s', rfl, sx', rp', sp', q0', q1', cp', hd'⟩
    · obtain ⟨k, e⟩ := mem r (by simp)
      rw [e] at rp
      exact absurd rp (by simp)
    · exfalso
      obtain ⟨n, k, e1, e2, _⟩ := int_1 (mem r (by simp))
      obtain ⟨m, l, f1, f2, _⟩ := int_1 (mem s (by simp))
      rw [sx] at f1
      have hr1 : r'.1 ≠ 0 := fun h => by rw [h, Int.mul_zero] at e1; omega
      have m0 : m = 0 := by rcases Int.mul_eq_zero.mp f1.symm with h | h; exact h; exact absurd h hr1
      subst m0
      omega
    · obtain ⟨m, n, k, e1, e2, e3⟩ := int_2 sx (mem' r' (by simp))
      obtain ⟨m', n', k', f1, f2, f3⟩ := int_2 sx' (mem r (by simp))
      have ex : r'.1 = r.1 := pos_eq rp' rp e1 f1
      have m1 : m = 1 := by
        rw [ex] at e1
        have h2 : (m - 1) * r.1 = 0 := by rw [Int.sub_mul, ← e1]; omega
        rcases Int.mul_eq_zero.mp h2 with h | h <;> omega
      obtain ⟨a, b, d, g1, g2, g3⟩ := int_2 sx (mem' s' (by simp))
      obtain ⟨a', b', d', i1, i2, i3⟩ := int_2 sx' (mem s (by simp))
      have a0 : a = 0 := by rw [sx'] at g1; rcases Int.mul_eq_zero.mp g1.symm with h | h <;> omega
      have a0' : a' = 0 := by rw [sx] at i1; rcases Int.mul_eq_zero.mp i1.symm with h | h <;> omega
      subst a0 a0' m1
      rw [Int.zero_mul, Int.zero_add] at g2 i2
      have ey : s'.2.1 = s.2.1 := pos_eq sp' sp g2 i2
      have b1 : b = 1 := by
        rw [ey] at g2
        have h2 : (b - 1) * s.2.1 = 0 := by rw [Int.sub_mul, ← g2]; omega
        rcases Int.mul_eq_zero.mp h2 with h | h <;> omega
      subst b1
      have es : s'.2.2 = s.2.2 := by
        rw [tr0] at g3
        refine red_eq (c := c) ⟨d, ?_⟩ (fun hp => ar' hp s' (by simp)) (fun hp => ar hp s (by simp)) c0
        rw [g3]; grind
      obtain ⟨n0, er⟩ := red_mul (n := n) sp (show r'.2.1 - r.2.1 = n * s.2.1 by omega) ⟨q0', by omega⟩ ⟨q0, q1⟩
      subst n0
      have ea : r'.2.2 = r.2.2 := by
        rw [tr1] at e3
        refine red_eq (c := c) ⟨k, ?_⟩ (fun hp => ar' hp r' (by simp)) (fun hp => ar hp r (by simp)) c0
        rw [e3]; grind
      rw [show r = r' from p3_ext ex.symm er.symm ea.symm, show s = s' from p3_ext (by omega) ey.symm es.symm]
def whP (r g : P3) : Int × Int := if r.1 ≠ 0 then (r.1, g.1) else (r.2.1, g.2.1)
def stP (r g : P3) : P3 := mu (pw r (-((whP r g).2 / (whP r g).1))) g
def figL : List P3 → P3 → Option P3
  | [], g => some g
  | r :: L, g => if (whP r g).2 % (whP r g).1 ≠ 0 then none else figL L (stP r g)
def okEnd (c : Int) (g : P3) : Prop := g.1 = 0 ∧ g.2.1 = 0 ∧ c ∣ g.2.2
def FigOk (L : List P3) (c : Int) (g : P3) : Prop := ∃ z, figL L g = some z ∧ okEnd c z
theorem okEnd_iff {c : Int} {g : P3} : okEnd c g ↔ ∃ k, g = zz (k * c) := by
  constructor
  · rintro ⟨h1, h2, k, h3⟩
    exact ⟨k, p3_ext h1 h2 (by rw [h3]; exact Int.mul_comm ..)⟩
  · rintro ⟨k, rfl⟩
    exact ⟨rfl, rfl, k, Int.mul_comm ..⟩
theorem pw_cancel (r g : P3) (n : Int) : mu (pw r (-n)) (mu (pw r n) g) = g := by rw [← mu_assoc, pw_add, Int.add_left_neg, pw_0, e0_mu]
theorem pw_cancel' (r g : P3) (n : Int) : mu (pw r n) (mu (pw r (-n)) g) = g := by rw [← mu_assoc, pw_add, Int.add_right_neg, pw_0, e0_mu]
theorem wh_pw {r : P3} (hr : 0 < r.1 ∨ r.1 = 0 ∧ 0 < r.2.1) (n : Int) {g : P3} (hx : g.1 = 0) (hy : r.1 = 0 → g.2.1 = 0) : (whP r (mu (pw r n) g)).1 > 0 ∧ (whP r (mu (pw r n) g)).2 = n * (whP r (mu (pw r n) g)).1 := by
  unfold whP
  rcases hr with h | ⟨h, h2⟩
  · rw [if_pos (by omega)]
    exact ⟨h, by show n * r.1 + g.1 = n * r.1; omega⟩
  · rw [if_neg (by omega)]
    exact ⟨h2, by show n * r.2.1 + g.2.1 = n * r.2.1; have := hy h; omega⟩
theorem st_pw {r : P3} (hr : 0 < r.1 ∨ r.1 = 0 ∧ 0 < r.2.1) (n : Int) {g : P3} (hx : g.1 = 0) (hy : r.1 = 0 → g.2.1 = 0) : (whP r (mu (pw r n) g)).2 % (whP r (mu (pw r n) g)).1 = 0 ∧ stP r (mu (pw r n) g) = g := by
  obtain ⟨h1, h2⟩ := wh_pw hr n hx hy
  refine ⟨by rw [h2]; exact Int.mul_emod_left .., ?_⟩
  unfold stP
  rw [h2, Int.mul_ediv_cancel _ (by omega), pw_cancel]
theorem fig_iff {L : List P3} {c : Int} (hL : Led L c) (g : P3) : FigOk L c g ↔ InT L c g := by
  constructor
  · rintro ⟨z, hz, ho⟩
    have hU := int_sb hL
    have hzT : InT L c z := by
      obtain ⟨k, rfl⟩ := okEnd_iff.mp ho
      exact int_home L c k
    have key : ∀ (M : List P3) (g z : P3), (∀ r ∈ M, InT L c r) → figL M g = some z → InT L c z → InT L c g := by
      intro M
      induction M with
      | nil => intro g z _ h hz; rw [show g = z from Option.some.inj h]; exact hz
      | cons r M ih =>
        intro g z hr h hz
        unfold figL at h
        split at h
        · cases h
        · have h1 := ih (stP r g) z (fun x hx => hr x (List.mem_cons_of_mem _ hx)) h hz
          have h2 := hU.mul _ _ (hU.pw (hr r (List.mem_cons_self ..)) ((whP r g).2 / (whP r g).1)) h1
          unfold stP at h2
          rw [pw_cancel'] at h2
          exact h2
    exact key L g z (fun r hr => int_row hL hr) hz hzT
  · intro h
    obtain ⟨c0, ha, rfl | ⟨r, rfl, hr⟩ | ⟨r, s, rfl, sx, rp, sp, q0, q1, cp, hd⟩⟩ := hL
    · exact ⟨g, rfl, okEnd_iff.mpr h⟩
    · obtain ⟨n, k, rfl⟩ := h
      obtain ⟨h1, h2⟩ := st_pw (g := zz (k * c)) hr n rfl (fun _ => rfl)
      refine ⟨zz (k * c), ?_, okEnd_iff.mpr ⟨k, rfl⟩⟩
      unfold figL
      rw [if_neg (by omega), h2]
      rfl
    · obtain ⟨m, n, k, rfl⟩ := h
      rw [mu_assoc]
      obtain ⟨h1, h2⟩ := st_pw (g := mu (pw s n) (zz (k * c))) (.inl rp) m (by show n * s.1 + 0 = 0; rw [sx]; omega) (fun h => by omega)
      obtain ⟨h3, h4⟩ := st_pw (r := s) (g := zz (k * c)) (.inr ⟨sx, sp⟩) n rfl (fun _ => rfl)
      refine ⟨zz (k * c), ?_, okEnd_iff.mpr ⟨k, rfl⟩⟩
      unfold figL
      rw [if_neg (by omega), h2]
      unfold figL
      rw [if_neg (by omega), h4]
      rfl
def redF (a c : Int) : Int := if c = 0 then a else a % c
/-- by the first place x is moved, if it can be -/
def rsP (first : Bool) (r g : P3) : P3 := mu (pw r (-(if first = true ∧ 0 < r.1 then g.1 / r.1 else g.2.1 / r.2.1))) g
def rsL : Bool → List P3 → P3 → P3
  | _, [], g => g
  | b, r :: L, g => rsL false L (rsP b r g)
def restF (L : List P3) (c : Int) (g : P3) : P3 := ((rsL true L g).1, (rsL true L g).2.1, redF (rsL true L g).2.2 c)
def inB1 (r g : P3) : Prop := 0 ≤ (whP r g).2 ∧ (whP r g).2 < (whP r g).1
def InBox (L : List P3) (c : Int) (g : P3) : Prop := (0 < c → 0 ≤ g.2.2 ∧ g.2.2 < c) ∧ ∀ r ∈ L, inB1 r g
theorem red_bx {a c : Int} (c0 : 0 ≤ c) : (0 < c → 0 ≤ redF a c ∧ redF a c < c) ∧ c ∣ redF a c - a := by
  unfold redF
  by_cases h : c = 0
  · rw [if_pos h]
    exact ⟨fun h' => by omega, by rw [Int.sub_self]; exact Int.dvd_zero c⟩
  · rw [if_neg h]
    refine ⟨fun h' => ⟨Int.emod_nonneg _ h, Int.emod_lt_of_pos _ h'⟩, ⟨-(a / c), ?_⟩⟩
    have := Int.emod_add_mul_ediv a c
    grind
theorem rsL_mem {U : P3 → Prop} (hU : Sb U) : ∀ (L : List P3) (b : Bool) (g : P3), (∀ r ∈ L, U r) → U (mu (rsL b L g) (iv g))
  | [], b, g, _ => by show U (mu g (iv g)); rw [mu_iv]; exact hU.one
  | r :: L, b, g, h => by
    have h1 := rsL_mem hU L false (rsP b r g) fun x hx => h x (List.mem_cons_of_mem _ hx)
    have h2 : U (mu (rsP b r g) (iv g)) := by
      unfold rsP
      rw [mu_assoc, mu_iv, mu_e0]
      exact hU.pw (h r (List.mem_cons_self ..)) _
    have h3 := hU.mul _ _ h1 h2
    rw [mu_assoc, ← mu_assoc (iv (rsP b r g)), iv_mu, e0_mu] at h3
    exact h3
theorem rest_mem {L : List P3} {c : Int} (hL : Led L c) (g : P3) : InT L c (mu (restF L c g) (iv g)) := by
  have h1 := rsL_mem (int_sb hL) L true g fun r hr => int_row hL hr
  obtain ⟨_, k, hk⟩ := red_bx (a := (rsL true L g).2.2) hL.1
  have e : restF L c g = mu (zz (k * c)) (rsL true L g) := by
    rw [zz_mu]
    refine p3_ext rfl rfl ?_
    show redF _ c = k * c + _
    rw [Int.mul_comm]; omega
  rw [e, mu_assoc]
  exact int_mul hL (int_home L c k) h1
theorem rs_x {r g : P3} (hr : 0 < r.1) : 0 ≤ (rsP true r g).1 ∧ (rsP true r g).1 < r.1 := by
  unfold rsP
  rw [if_pos ⟨rfl, hr⟩]
  show 0 ≤ -(g.1 / r.1) * r.1 + g.1 ∧ -(g.1 / r.1) * r.1 + g.1 < r.1
  have h1 := Int.emod_add_mul_ediv g.1 r.1
  have h2 := Int.emod_nonneg g.1 (show r.1 ≠ 0 by omega)
  have h3 := Int.emod_lt_of_pos g.1 hr
  have e : -(g.1 / r.1) * r.1 + g.1 = g.1 % r.1 := by grind
  omega
theorem rs_y {b : Bool} {r g : P3} (hr : 0 < r.2.1) (hx : r.1 = 0) : (rsP b r g).1 = g.1 ∧ 0 ≤ (rsP b r g).2.1 ∧ (rsP b r g).2.1 < r.2.1 := by
  unfold rsP
  rw [if_neg (fun h => by omega)]
  refine ⟨by show -(g.2.1 / r.2.1) * r.1 + g.1 = g.1; rw [hx]; omega, ?_⟩
  show 0 ≤ -(g.2.1 / r.2.1) * r.2.1 + g.2.1 ∧ -(g.2.1 / r.2.1) * r.2.1 + g.2.1 < r.2.1
  have h1 := Int.emod_add_mul_ediv g.2.1 r.2.1
  have h2 := Int.emod_nonneg g.2.1 (show r.2.1 ≠ 0 by omega)
  have h3 := Int.emod_lt_of_pos g.2.1 hr
  have e : -(g.2.1 / r.2.1) * r.2.1 + g.2.1 = g.2.1 % r.2.1 := by grind
  omega
theorem rest_box {L : List P3} {c : Int} (hL : Led L c) (g : P3) : InBox L c (restF L c g) := by
  refine ⟨(red_bx hL.1).1, fun r hr => ?_⟩
  obtain ⟨c0, ha, rfl | ⟨r1, rfl, hr1⟩ | ⟨r1, s, rfl, sx, rp, sp, q0, q1, cp, hd⟩⟩ := hL
  · cases hr
  · rw [List.mem_singleton] at hr
    subst hr
    unfold inB1 whP
    rcases hr1 with h | ⟨h, h2⟩
    · rw [if_pos (by omega)]
      exact rs_x h
    · rw [if_neg (by omega)]
      exact (rs_y (b := true) h2 h).2
  · simp only [List.mem_cons, List.not_mem_nil, or_false] at hr
    unfold inB1 whP
    have h1 := rs_x (r := r1) (g := g) rp
    have h2 := rs_y (b := false) (r := s) (g := rsP true r1 g) sp sx
    rcases hr with rfl | rfl
    · rw [if_pos (by omega)]
      show 0 ≤ (rsP false s (rsP true r g)).1 ∧ (rsP false s (rsP true r g)).1 < r.1
      rw [h2.1]; exact h1
    · rw [if_neg (by omega)]
      exact h2.2
/-- a box holds one place of each coset -/
theorem box_uniq {L : List P3} {c : Int} (hL : Led L c) {g h : P3} (hg : InBox L c g) (hh : InBox L c h) (hm : InT L c (mu g (iv h))) : g = h := by
  have e1 : (mu g (iv h)).1 = g.1 - h.1 := rfl
  have e2 : (mu g (iv h)).2.1 = g.2.1 - h.2.1 := rfl
  have e3 : (mu g (iv h)).2.2 = g.2.2 + (h.1 * h.2.1 - h.2.2) + g.1 * -h.2.1 := rfl
  have tr0 : tr 0 = 0 := by decide
  have c0 := hL.1
  have fin : g.1 = h.1 → g.2.1 = h.2.1 → c ∣ (mu g (iv h)).2.2 → g = h := fun f1 f2 f3 => by
    refine p3_ext f1 f2 (red_eq (c := c) ?_ hg.1 hh.1 c0)
    rw [e3, f1] at f3
    have : g.2.2 + (h.1 * h.2.1 - h.2.2) + h.1 * -h.2.1 = g.2.2 - h.2.2 := by grind
    rwa [this] at f3
  obtain ⟨c0, ha, rfl | ⟨r, rfl, hr⟩ | ⟨r, s, rfl, sx, rp, sp, q0, q1, cp, hd⟩⟩ := hL
  · obtain ⟨k, hk⟩ := hm
    rw [hk] at e1 e2 fin
    have f1 : (0 : Int) = g.1 - h.1 := e1
    have f2 : (0 : Int) = g.2.1 - h.2.1 := e2
    exact fin (by omega) (by omega) ⟨k, Int.mul_comm ..⟩
  · obtain ⟨n, k, f1, f2, f3⟩ := int_1 hm
    have b1 := hg.2 r (by simp)
    have b2 := hh.2 r (by simp)
    unfold inB1 whP at b1 b2
    have n0 : n = 0 := by
      rcases hr with h1 | ⟨h1, h2⟩
      · rw [if_pos (by omega)] at b1 b2
        exact (red_mul h1 (show g.1 - h.1 = n * r.1 by omega) b1 b2).1
      · rw [if_neg (by omega)] at b1 b2
        exact (red_mul h2 (show g.2.1 - h.2.1 = n * r.2.1 by omega) b1 b2).1
    subst n0
    rw [tr0] at f3
    exact fin (by omega) (by omega) ⟨k, by rw [f3]; grind⟩
  · obtain ⟨m, n, k, f1, f2, f3⟩ := int_2 sx hm
    have b1 := hg.2 r (by simp)
    have b2 := hh.2 r (by simp)
    have b3 := hg.2 s (by simp)
    have b4 := hh.2 s (by simp)
    unfold inB1 whP at b1 b2 b3 b4
    rw [if_pos (by omega)] at b1 b2
    rw [if_neg (by omega)] at b3 b4
    have m0 := (red_mul rp (show g.1 - h.1 = m * r.1 by omega) b1 b2).1
    subst m0
    have n0 := (red_mul sp (show g.2.1 - h.2.1 = n * s.2.1 by omega) b3 b4).1
    subst n0
    rw [tr0] at f3
    exact fin (by omega) (by omega) ⟨k, by rw [f3]; grind⟩
theorem rest_eq {L : List P3} {c : Int} (hL : Led L c) (g h : P3) : restF L c g = restF L c h ↔ InT L c (mu g (iv h)) := by
  have U := int_sb hL
  have h1 := rest_mem hL g
  have h2 := rest_mem hL h
  constructor
  · intro e
    rw [e] at h1
    have h3 := U.mul _ _ (U.inv _ h1) h2
    rw [iv_mul, iv_iv, mu_assoc, ← mu_assoc (iv _), iv_mu, e0_mu] at h3
    exact h3
  · intro hm
    refine box_uniq hL (rest_box hL g) (rest_box hL h) ?_
    have h3 := U.mul _ _ (U.mul _ _ h1 hm) (U.inv _ h2)
    rw [iv_mul, iv_iv] at h3
    have e : mu (mu (mu (restF L c g) (iv g)) (mu g (iv h))) (mu h (iv (restF L c h))) = mu (restF L c g) (iv (restF L c h)) := by
      simp only [mu_assoc]
      rw [← mu_assoc (iv g), iv_mu, e0_mu, ← mu_assoc (iv h), iv_mu, e0_mu]
    rw [e] at h3
    exact h3
theorem rest_id {L : List P3} {c : Int} (hL : Led L c) {g : P3} (hg : InBox L c g) : restF L c g = g := box_uniq hL (rest_box hL g) hg (rest_mem hL g)
end Tbl

set_option linter.all false
set_option maxHeartbeats 4000000
namespace Tbl
abbrev ab (x : Int) : Int := (x.natAbs : Int)
theorem ab_nn (x : Int) : 0 ≤ ab x := Int.natCast_nonneg _
theorem ab_mul (x y : Int) : ab (x * y) = ab x * ab y := by unfold ab; rw [Int.natAbs_mul]; push_cast; rfl
theorem ab_add (x y : Int) : ab (x + y) ≤ ab x + ab y := by unfold ab; omega
theorem ab_sub (x y : Int) : ab (x - y) ≤ ab x + ab y := by unfold ab; omega
theorem ab_neg (x : Int) : ab (-x) = ab x := by unfold ab; omega
theorem mulle {a b c d : Int} (ha : 0 ≤ a) (h1 : a ≤ b) (hc : 0 ≤ c) (h2 : c ≤ d) : a * c ≤ b * d := Int.mul_le_mul h1 h2 hc (by omega)
theorem fq {a b : Int} (hb : b ≠ 0) : ∃ r, a = a.fdiv b * b + r ∧ ((0 < b ∧ 0 ≤ r ∧ r < b) ∨ (b < 0 ∧ b < r ∧ r ≤ 0)) := by
  rcases Int.lt_or_gt_of_ne hb with h | h
  · have e : a.fdiv b = (-a) / (-b) := by rw [← Int.neg_fdiv_neg, Int.fdiv_eq_ediv_of_nonneg _ (by omega)]
    have h1 := Int.emod_add_mul_ediv (-a) (-b)
    have h2 := Int.emod_nonneg (-a) (show -b ≠ 0 by omega)
    have h3 := Int.emod_lt_of_pos (-a) (show 0 < -b by omega)
    refine ⟨-((-a) % (-b)), ?_, .inr ⟨h, by omega, by omega⟩⟩
    rw [e]; grind
  · have e : a.fdiv b = a / b := Int.fdiv_eq_ediv_of_nonneg _ (by omega)
    have h1 := Int.emod_add_mul_ediv a b
    refine ⟨a % b, ?_, .inl ⟨h, Int.emod_nonneg a hb, Int.emod_lt_of_pos a h⟩⟩
    rw [e]; grind
/-- the rest, its sign, how great the quotient is -/
theorem fq_ab {a b : Int} (hb : b ≠ 0) : ab (a - a.fdiv b * b) < ab b ∧ 0 ≤ b * (a - a.fdiv b * b) ∧ ab (a.fdiv b) * ab b ≤ ab a + ab b ∧ (0 ≤ a * b → ab (a.fdiv b) * ab b + ab (a - a.fdiv b * b) = ab a) := by
  obtain ⟨r, hr, h⟩ := fq (a := a) hb
  have e : a - a.fdiv b * b = r := by omega
  rw [e, ← ab_mul]
  generalize hQ : a.fdiv b * b = Q at *
  refine ⟨by unfold ab; omega, ?_, by unfold ab; omega, fun hs => ?_⟩
  · rcases h with ⟨h1, h2, _⟩ | ⟨h1, _, h2⟩
    · exact Int.mul_nonneg (by omega) h2
    · exact Int.mul_nonneg_of_nonpos_of_nonpos (by omega) h2
  · have hq : 0 ≤ a.fdiv b ∨ a = 0 := by
      rcases h with ⟨h1, h2, h3⟩ | ⟨h1, h2, h3⟩
      · have : 0 ≤ a := by
          rcases Int.lt_or_le a 0 with h | h
          · have := Int.mul_neg_of_neg_of_pos h h1; omega
          · exact h
        left
        rw [Int.fdiv_eq_ediv_of_nonneg _ (by omega)]
        exact Int.ediv_nonneg this (by omega)
      · have : a ≤ 0 := by
          rcases Int.lt_or_le 0 a with h | h
          · have := Int.mul_neg_of_pos_of_neg h h1; omega
          · exact h
        left
        rw [← Int.neg_fdiv_neg, Int.fdiv_eq_ediv_of_nonneg _ (by omega)]
        exact Int.ediv_nonneg (by omega) (by omega)
    rcases hq with hq | hq
    · rcases h with ⟨h1, h2, h3⟩ | ⟨h1, h2, h3⟩
      · have : 0 ≤ Q := by rw [← hQ]; exact Int.mul_nonneg hq (by omega)
        unfold ab; omega
      · have : Q ≤ 0 := by rw [← hQ]; exact Int.mul_nonpos_of_nonneg_of_nonpos hq (by omega)
        unfold ab; omega
    · subst hq
      have : Q = 0 := by rw [← hQ, Int.zero_fdiv, Int.zero_mul]
      unfold ab; omega
/-- what is carried along while a measure goes down -/
structure EI (X M mh ml wh wl : Int) : Prop where
  nz : mh ≠ 0
  bh : ab mh ≤ X
  bl : ab ml ≤ X
  w0 : 0 ≤ wh
  w1 : 0 ≤ wl
  al : (wh ≤ M ∧ wl ≤ M) ∨ (0 ≤ mh * ml ∧ wh * ab ml + wl * ab mh ≤ 4 * X * M ∧ wh ≤ 4 * X * M)
theorem EI.le {X M mh ml wh wl : Int} (h : EI X M mh ml wh wl) (M0 : 0 ≤ M) : wh ≤ 4 * X * M ∧ wl ≤ 4 * X * M := by
  have x1 : 1 ≤ ab mh := by have := h.nz; unfold ab; omega
  have X1 : 1 ≤ X := Int.le_trans x1 h.bh
  have e : 4 * X * M = 4 * (X * M) := Int.mul_assoc ..
  have m1 : M ≤ X * M := by have := mulle (a := 1) (b := X) (c := M) (d := M) (by omega) X1 M0 (Int.le_refl _); omega
  rcases h.al with ⟨h1, h2⟩ | ⟨_, h2, h3⟩
  · constructor <;> omega
  · refine ⟨h3, ?_⟩
    have a1 : 0 ≤ wh * ab ml := Int.mul_nonneg h.w0 (ab_nn _)
    have a2 : wl * 1 ≤ wl * ab mh := mulle h.w1 (Int.le_refl _) (by omega) x1
    omega
theorem EI.step {X M mh ml wh wl wl' : Int} (h : EI X M mh ml wh wl) (M0 : 0 ≤ M) (hl : ml ≠ 0) (hw : wl' ≤ wh + ab (mh.fdiv ml) * wl) (hw0 : 0 ≤ wl') : EI X M ml (mh - mh.fdiv ml * ml) wl wl' := by
  obtain ⟨q1, q2, q3, q4⟩ := fq_ab (a := mh) hl
  have le := h.le M0
  have e : 4 * X * M = 4 * (X * M) := Int.mul_assoc ..
  have a1 := ab_nn ml
  have a2 := ab_nn (mh - mh.fdiv ml * ml)
  have a3 := ab_nn (mh.fdiv ml)
  have bl := h.bl
  have bh := h.bh
  have w0 := h.w0
  have w1 := h.w1
  generalize hr : mh - mh.fdiv ml * ml = r at *
  generalize hq : mh.fdiv ml = q at *
  have k1 : wl' * ab ml ≤ (wh + ab q * wl) * ab ml := Int.mul_le_mul_of_nonneg_right hw a1
  have k2 : (wh + ab q * wl) * ab ml = wh * ab ml + wl * (ab q * ab ml) := by grind
  refine ⟨hl, h.bl, by omega, w1, hw0, .inr ⟨q2, ?_, le.2⟩⟩
  rcases h.al with ⟨h1, h2⟩ | ⟨h1, h2, h3⟩
  · have c1 : wl * ab r ≤ M * X := mulle w1 h2 a2 (by omega)
    have c2 : wh * ab ml ≤ M * X := mulle w0 h1 a1 bl
    have c3 : wl * (ab q * ab ml) ≤ M * (2 * X) := mulle w1 h2 (Int.mul_nonneg a3 a1) (by omega)
    have c4 : M * (2 * X) = 2 * (X * M) := by grind
    have c5 : M * X = X * M := Int.mul_comm ..
    omega
  · have q5 := q4 h1
    have c1 : wl * (ab q * ab ml) + wl * ab r = wl * ab mh := by rw [← Int.mul_add, q5]
    omega
/-- how many steps -/
def EC (X : Int) (k : Nat) (mh ml : Int) : Prop := k = 0 ∨ (0 ≤ mh * ml ∧ ab ml < ab mh ∧ (2 : Int) ^ (k - 1) * (ab mh * ab ml) ≤ X * X ∧ (k = 1 ∨ (2 : Int) ^ (k - 2) ≤ X * X))
theorem EC.step {X mh ml : Int} {k : Nat} (h : EC X k mh ml) (bl : ab ml ≤ X) (hl : ml ≠ 0) : EC X (k + 1) ml (mh - mh.fdiv ml * ml) := by
  obtain ⟨q1, q2, q3, q4⟩ := fq_ab (a := mh) hl
  have a1 := ab_nn ml
  have a2 := ab_nn (mh - mh.fdiv ml * ml)
  have a3 := ab_nn (mh.fdiv ml)
  have l1 : 1 ≤ ab ml := by unfold ab; omega
  generalize hr : mh - mh.fdiv ml * ml = r at *
  refine .inr ⟨q2, q1, ?_, ?_⟩
  · rcases h with rfl | ⟨h1, h2, h3, _⟩
    · show (2 : Int) ^ 0 * _ ≤ _
      rw [Int.pow_zero, Int.one_mul]
      exact mulle a1 bl a2 (by omega)
    · have q5 := q4 h1
      cases k with
      | zero => 
        have c0 : ab ml * ab r ≤ X * X := mulle a1 bl a2 (by omega)
        show (2 : Int) ^ 0 * _ ≤ _
        rw [Int.pow_zero, Int.one_mul]
        exact c0
      | succ k =>
        have c1 : 1 ≤ ab (mh.fdiv ml) := by
          rcases Int.lt_or_le (ab (mh.fdiv ml)) 1 with z | z
          · exfalso
            have z0 : ab (mh.fdiv ml) = 0 := by omega
            rw [z0] at q5
            omega
          · exact z
        have c2 : 1 * ab ml ≤ ab (mh.fdiv ml) * ab ml := mulle (by omega) c1 a1 (Int.le_refl _)
        have c3 : 2 * ab r ≤ ab mh := by omega
        have c4 : (2 : Int) ^ (k + 1) * (ab ml * ab r) = (2 : Int) ^ k * (ab ml * (2 * ab r)) := by rw [Int.pow_succ]; grind
        have c5 : ab ml * (2 * ab r) ≤ ab mh * ab ml := by rw [Int.mul_comm (ab mh)]; exact mulle a1 (Int.le_refl _) (by omega) c3
        have c6 : (2 : Int) ^ k * (ab ml * (2 * ab r)) ≤ (2 : Int) ^ k * (ab mh * ab ml) := Int.mul_le_mul_of_nonneg_left c5 (Int.le_of_lt (Int.pow_pos (by decide)))
        show (2 : Int) ^ (k + 1 + 1 - 1) * _ ≤ _
        rw [show k + 1 + 1 - 1 = k + 1 by omega, c4]
        have h3 : (2 : Int) ^ (k + 1 - 1) * (ab mh * ab ml) ≤ X * X := h3
        rw [show k + 1 - 1 = k by omega] at h3
        omega
  · rcases h with rfl | ⟨h1, h2, h3, _⟩
    · exact .inl rfl
    · cases k with
      | zero => exact .inl rfl
      | succ k =>
        right
        show (2 : Int) ^ (k + 1 + 1 - 2) ≤ _
        rw [show k + 1 + 1 - 2 = k by omega]
        rw [show k + 1 - 1 = k by omega] at h3
        have c1 : 1 ≤ ab mh * ab ml := by have := mulle (a := 1) (b := ab mh) (c := 1) (d := ab ml) (by omega) (by omega) (by omega) l1; omega
        have c2 : (2 : Int) ^ k * 1 ≤ (2 : Int) ^ k * (ab mh * ab ml) := Int.mul_le_mul_of_nonneg_left c1 (Int.le_of_lt (Int.pow_pos (by decide)))
        omega
theorem EC.le {n k : Nat} {mh ml : Int} (h : EC ((2 : Int) ^ n) k mh ml) : k ≤ 2 * n + 2 := by
  rcases h with rfl | ⟨_, _, _, rfl | h⟩
  · omega
  · omega
  · have e : (2 : Int) ^ n * (2 : Int) ^ n = (2 : Int) ^ (2 * n) := by rw [← Int.pow_add]; congr 1; omega
    rw [e] at h
    have h2 : (2 : Nat) ^ (k - 2) ≤ 2 ^ (2 * n) := by exact_mod_cast h
    have := (Nat.pow_le_pow_iff_right (by decide : 1 < 2)).mp h2
    omega
inductive Ph | x | y | a
def meas : Ph → P3 → Int
  | .x, p => p.1
  | .y, p => p.2.1
  | .a, p => p.2.2
/-- twice the area less the ground -/
def uu (p : P3) : Int := 2 * p.2.2 - p.1 * p.2.1
theorem uu_mu (p q : P3) : uu (mu p q) = uu p + uu q + (p.1 * q.2.1 - q.1 * p.2.1) := by simp only [uu, mu]; grind
theorem uu_pw (p : P3) (n : Int) : uu (pw p n) = n * uu p := by
  have := tr2 n
  simp only [uu, pw]; grind
theorem uu_iv (p : P3) : uu (iv p) = -uu p := by simp only [uu, iv]; grind
/-- numbers of up to n bits in the measure, of up to m in what is carried; by x the twisted ones have n + 2 bits more -/
def Dom : Ph → Nat → Nat → P3 → Prop
  | .x, n, m, p => ab p.1 ≤ 2 ^ n ∧ ab p.2.1 ≤ 2 ^ m ∧ ab (uu p) ≤ 2 ^ (m + n + 2)
  | .y, n, m, p => p.1 = 0 ∧ ab p.2.1 ≤ 2 ^ n ∧ ab (uu p) ≤ 2 ^ m
  | .a, n, _, p => p.1 = 0 ∧ p.2.1 = 0 ∧ ab p.2.2 ≤ 2 ^ n
def gb : Ph → Nat → Nat → Nat
  | .x, n, m => m + n + 3
  | .y, n, m => m + n + 2
  | .a, _, m => m
theorem pw2_le {a b : Nat} (h : a ≤ b) : (2 : Int) ^ a ≤ 2 ^ b := by exact_mod_cast Nat.pow_le_pow_right (by decide) h
theorem Dom.mono {ph : Ph} {n m m' : Nat} {p : P3} (h : Dom ph n m p) (hm : m ≤ m') : Dom ph n m' p := by
  have := pw2_le hm
  cases ph with
  | x => obtain ⟨h1, h2, h3⟩ := h; have h4 := pw2_le (show m + n + 2 ≤ m' + n + 2 by omega); exact ⟨h1, by omega, by omega⟩
  | y => obtain ⟨h1, h2, h3⟩ := h; exact ⟨h1, h2, by omega⟩
  | a => exact h
theorem Dom.iv {ph : Ph} {n m : Nat} {p : P3} (h : Dom ph n m p) : Dom ph n m (iv p) := by
  cases ph with
  | x => obtain ⟨h1, h2, h3⟩ := h; exact ⟨by rw [show (Tbl.iv p).1 = -p.1 from rfl, ab_neg]; exact h1, by rw [show (Tbl.iv p).2.1 = -p.2.1 from rfl, ab_neg]; exact h2, by rw [uu_iv, ab_neg]; exact h3⟩
  | y => obtain ⟨h1, h2, h3⟩ := h; exact ⟨by rw [show (Tbl.iv p).1 = -p.1 from rfl, h1]; rfl, by rw [show (Tbl.iv p).2.1 = -p.2.1 from rfl, ab_neg]; exact h2, by rw [uu_iv, ab_neg]; exact h3⟩
  | a =>
    obtain ⟨h1, h2, h3⟩ := h
    refine ⟨by rw [show (Tbl.iv p).1 = -p.1 from rfl, h1]; rfl, by rw [show (Tbl.iv p).2.1 = -p.2.1 from rfl, h2]; rfl, ?_⟩
    rw [show (Tbl.iv p).2.2 = p.1 * p.2.1 - p.2.2 from rfl, h1, Int.zero_mul, Int.zero_sub, ab_neg]
    exact h3
theorem meas_iv {ph : Ph} {n m : Nat} {p : P3} (h : Dom ph n m p) : meas ph (iv p) = -meas ph p := by
  cases ph with
  | x => rfl
  | y => rfl
  | a => show p.1 * p.2.1 - p.2.2 = -p.2.2; rw [h.1]; omega
theorem meas_le {ph : Ph} {n m : Nat} {p : P3} (h : Dom ph n m p) : ab (meas ph p) ≤ 2 ^ n := by
  cases ph with
  | x => exact h.1
  | y => exact h.2.1
  | a => exact h.2.2
/-- the next one of Euclid's -/
def nxP (ph : Ph) (h l : P3) : P3 := mu h (pw l (-((meas ph h).fdiv (meas ph l))))
theorem nx_meas {ph : Ph} {n m n' m' : Nat} {h l : P3} (dh : Dom ph n m h) (dl : Dom ph n' m' l) : meas ph (nxP ph h l) = meas ph h - (meas ph h).fdiv (meas ph l) * meas ph l := by
  generalize hq : (meas ph h).fdiv (meas ph l) = q
  cases ph with
  | x => show h.1 + -(_) * l.1 = h.1 - q * l.1; rw [hq]; grind
  | y => show h.2.1 + -(_) * l.2.1 = h.2.1 - q * l.2.1; rw [hq]; grind
  | a =>
    show h.2.2 + (-(_) * l.2.2 + l.1 * l.2.1 * _) + h.1 * (-(_) * l.2.1) = h.2.2 - q * l.2.2
    rw [dl.1, dl.2.1, dh.1, hq]; grind
structure St (ph : Ph) (n m k : Nat) (h l : P3) : Prop where
  nz : meas ph h ≠ 0
  dh : ∃ m', Dom ph n m' h
  dl : ∃ m', Dom ph n m' l
  ec : EC ((2 : Int) ^ n) k (meas ph h) (meas ph l)
  ey : ph = .x → EI ((2 : Int) ^ n) ((2 : Int) ^ m) h.1 l.1 (ab h.2.1) (ab l.2.1)
  eu : ph = .x → ∃ T : Int, 0 ≤ T ∧ T ≤ 2 * ((2 : Int) ^ n * (2 : Int) ^ m) ∧ ab (h.1 * l.2.1 - l.1 * h.2.1) = T ∧ EI ((2 : Int) ^ n) ((2 : Int) ^ (m + n + 2) + T) h.1 l.1 (ab (uu h) + T) (ab (uu l) + T)
  ev : ph = .y → EI ((2 : Int) ^ n) ((2 : Int) ^ m) h.2.1 l.2.1 (ab (uu h)) (ab (uu l))
theorem p2_nn (n : Nat) : (1 : Int) ≤ 2 ^ n := by have := pw2_le (Nat.zero_le n); simpa using this
theorem st_init {ph : Ph} {n m : Nat} {h l : P3} (dh : Dom ph n m h) (dl : Dom ph n m l) (nz : meas ph h ≠ 0) : St ph n m 0 h l := by
  refine ⟨nz, ⟨m, dh⟩, ⟨m, dl⟩, .inl rfl, fun e => ?_, fun e => ?_, fun e => ?_⟩
  · subst e; exact ⟨nz, dh.1, dl.1, ab_nn _, ab_nn _, .inl ⟨dh.2.1, dl.2.1⟩⟩
  · subst e
    refine ⟨_, ab_nn _, ?_, rfl, ⟨nz, dh.1, dl.1, by have := ab_nn (uu h); have := ab_nn (h.1 * l.2.1 - l.1 * h.2.1); omega, by have := ab_nn (uu l); have := ab_nn (h.1 * l.2.1 - l.1 * h.2.1); omega, .inl ⟨by have := dh.2.2; omega, by have := dl.2.2; omega⟩⟩⟩
    have h1 := ab_sub (h.1 * l.2.1) (l.1 * h.2.1)
    rw [ab_mul, ab_mul] at h1
    have h2 := mulle (ab_nn h.1) dh.1 (ab_nn l.2.1) dl.2.1
    have h3 := mulle (ab_nn l.1) dl.1 (ab_nn h.2.1) dh.2.1
    omega
  · subst e; exact ⟨nz, dh.2.1, dl.2.1, ab_nn _, ab_nn _, .inl ⟨dh.2.2, dl.2.2⟩⟩
theorem st_dom {ph : Ph} {n m k : Nat} {h l : P3} (s : St ph n m k h l) : Dom ph n (gb ph n m) h ∧ Dom ph n (gb ph n m) l := by
  obtain ⟨mh, dh⟩ := s.dh
  obtain ⟨ml, dl⟩ := s.dl
  have p1 := p2_nn m
  have p2 := p2_nn n
  cases ph with
  | x =>
    have hy := (s.ey rfl).le (by omega)
    obtain ⟨T, T0, T1, _, he⟩ := s.eu rfl
    have p3 := p2_nn (m + n + 2)
    have hu := he.le (by omega)
    have g : (2 : Int) ^ (gb .x n m) = 8 * ((2 : Int) ^ n * (2 : Int) ^ m) := by
      show (2 : Int) ^ (m + n + 3) = _
      rw [Int.pow_add, Int.pow_add]
      show _ * 8 = _
      grind
    have g2 : (2 : Int) ^ (gb .x n m + n + 2) = 32 * ((2 : Int) ^ n * ((2 : Int) ^ n * (2 : Int) ^ m)) := by
      rw [Int.pow_add, Int.pow_add, g]
      show _ * 4 = _
      grind
    have g3 : (2 : Int) ^ (m + n + 2) = 4 * ((2 : Int) ^ n * (2 : Int) ^ m) := by
      rw [Int.pow_add, Int.pow_add]
      show _ * 4 = _
      grind
    have a0 : 0 ≤ (2 : Int) ^ n * (2 : Int) ^ m := Int.mul_nonneg (by omega) (by omega)
    have a2 : 4 * (2 : Int) ^ n * (2 : Int) ^ m = 4 * ((2 : Int) ^ n * (2 : Int) ^ m) := Int.mul_assoc ..
    have a4 : 0 ≤ (2 : Int) ^ n * ((2 : Int) ^ n * (2 : Int) ^ m) := Int.mul_nonneg (by omega) a0
    have a3 : 4 * (2 : Int) ^ n * ((2 : Int) ^ (m + n + 2) + T) ≤ 24 * ((2 : Int) ^ n * ((2 : Int) ^ n * (2 : Int) ^ m)) := by
      have b1 : (2 : Int) ^ n * T ≤ (2 : Int) ^ n * (2 * ((2 : Int) ^ n * (2 : Int) ^ m)) := Int.mul_le_mul_of_nonneg_left T1 (by omega)
      have b2 : 4 * (2 : Int) ^ n * ((2 : Int) ^ (m + n + 2) + T) = 16 * ((2 : Int) ^ n * ((2 : Int) ^ n * (2 : Int) ^ m)) + 4 * ((2 : Int) ^ n * T) := by rw [g3]; grind
      have b3 : (2 : Int) ^ n * (2 * ((2 : Int) ^ n * (2 : Int) ^ m)) = 2 * ((2 : Int) ^ n * ((2 : Int) ^ n * (2 : Int) ^ m)) := by grind
      omega
    exact ⟨⟨dh.1, by omega, by omega⟩, ⟨dl.1, by omega, by omega⟩⟩
  | y =>
    have hu := (s.ev rfl).le (by omega)
    have g : (2 : Int) ^ (gb .y n m) = 4 * (2 : Int) ^ n * (2 : Int) ^ m := by
      show (2 : Int) ^ (m + n + 2) = _
      rw [Int.pow_add, Int.pow_add]
      show _ * 4 = _
      grind
    exact ⟨⟨dh.1, dh.2.1, by omega⟩, ⟨dl.1, dl.2.1, by omega⟩⟩
  | a => exact ⟨dh, dl⟩
theorem st_step {ph : Ph} {n m k : Nat} {h l : P3} (s : St ph n m k h l) (nz : meas ph l ≠ 0) : St ph n m (k + 1) l (nxP ph h l) := by
  obtain ⟨mh, dh⟩ := s.dh
  obtain ⟨ml, dl⟩ := s.dl
  have p1 := p2_nn m
  have p2 := p2_nn n
  have em := nx_meas dh dl
  have hq := fq_ab (a := meas ph h) nz
  have bl := meas_le dl
  have bn : ab (meas ph (nxP ph h l)) ≤ 2 ^ n := by rw [em]; omega
  have ec : EC ((2 : Int) ^ n) (k + 1) (meas ph l) (meas ph (nxP ph h l)) := by rw [em]; exact s.ec.step bl nz
  generalize hqq : (meas ph h).fdiv (meas ph l) = q at *
  have nx : nxP ph h l = mu h (pw l (-q)) := by unfold nxP; rw [hqq]
  have e1 : (nxP ph h l).1 = h.1 - q * l.1 := by rw [nx]; show h.1 + -q * l.1 = _; grind
  have e2 : (nxP ph h l).2.1 = h.2.1 - q * l.2.1 := by rw [nx]; show h.2.1 + -q * l.2.1 = _; grind
  have e3 : uu (nxP ph h l) = uu h - q * uu l - q * (h.1 * l.2.1 - l.1 * h.2.1) := by
    rw [nx, uu_mu, uu_pw]
    show uu h + -q * uu l + (h.1 * (-q * l.2.1) - -q * l.1 * h.2.1) = _
    grind
  have wy : ab (nxP ph h l).2.1 ≤ ab h.2.1 + ab q * ab l.2.1 := by rw [e2, ← ab_mul]; exact ab_sub _ _
  have wu : ∀ T, ab (h.1 * l.2.1 - l.1 * h.2.1) ≤ T → ab (uu (nxP ph h l)) ≤ ab (uu h) + ab q * (ab (uu l) + T) := fun T hT => by
    rw [e3]
    have h1 := ab_sub (uu h - q * uu l) (q * (h.1 * l.2.1 - l.1 * h.2.1))
    have h2 := ab_sub (uu h) (q * uu l)
    rw [ab_mul] at h1 h2
    have h3 := Int.mul_le_mul_of_nonneg_left hT (ab_nn q)
    rw [Int.mul_add]
    omega
  refine ⟨nz, ⟨_, dl⟩, ?_, ec, fun e => ?_, fun e => ?_, fun e => ?_⟩
  · cases ph with
    | x =>
      have hy := (s.ey rfl).step (wl' := ab (nxP .x h l).2.1) (by omega) nz (by show _ ≤ _ + ab (meas .x h |>.fdiv (meas .x l)) * _; rw [hqq]; exact wy) (ab_nn _)
      have hN : ∃ N : Nat, ab (nxP .x h l).2.1 ≤ 2 ^ N ∧ ab (uu (nxP .x h l)) ≤ 2 ^ (N + n + 2) := by
        refine ⟨(nxP .x h l).2.1.natAbs + (uu (nxP .x h l)).natAbs, ?_, ?_⟩
        · have : (nxP .x h l).2.1.natAbs + (uu (nxP .x h l)).natAbs < 2 ^ ((nxP .x h l).2.1.natAbs + (uu (nxP .x h l)).natAbs) := Nat.lt_two_pow_self
          unfold ab
          have h2 : ((2 : Nat) ^ ((nxP .x h l).2.1.natAbs + (uu (nxP .x h l)).natAbs) : Int) = ((2 ^ ((nxP .x h l).2.1.natAbs + (uu (nxP .x h l)).natAbs) : Nat) : Int) := by push_cast; rfl
          have h3 : ((2 : Int) ^ ((nxP .x h l).2.1.natAbs + (uu (nxP .x h l)).natAbs)) = ((2 ^ ((nxP .x h l).2.1.natAbs + (uu (nxP .x h l)).natAbs) : Nat) : Int) := by push_cast; rfl
          rw [h3]; omega
        · refine Int.le_trans ?_ (pw2_le (show (nxP .x h l).2.1.natAbs + (uu (nxP .x h l)).natAbs ≤ (nxP .x h l).2.1.natAbs + (uu (nxP .x h l)).natAbs + n + 2 by omega))
          have : (nxP .x h l).2.1.natAbs + (uu (nxP .x h l)).natAbs < 2 ^ ((nxP .x h l).2.1.natAbs + (uu (nxP .x h l)).natAbs) := Nat.lt_two_pow_self
          unfold ab
          have h3 : ((2 : Int) ^ ((nxP .x h l).2.1.natAbs + (uu (nxP .x h l)).natAbs)) = ((2 ^ ((nxP .x h l).2.1.natAbs + (uu (nxP .x h l)).natAbs) : Nat) : Int) := by push_cast; rfl
          rw [h3]; omega
      obtain ⟨N, n1, n2⟩ := hN
      exact ⟨N, bn, n1, n2⟩
    | y =>
      have hN : ∃ N : Nat, ab (uu (nxP .y h l)) ≤ 2 ^ N := by
        refine ⟨(uu (nxP .y h l)).natAbs, ?_⟩
        have : (uu (nxP .y h l)).natAbs < 2 ^ (uu (nxP .y h l)).natAbs := Nat.lt_two_pow_self
        unfold ab
        have h3 : ((2 : Int) ^ (uu (nxP .y h l)).natAbs) = ((2 ^ (uu (nxP .y h l)).natAbs : Nat) : Int) := by push_cast; rfl
        rw [h3]; omega
      obtain ⟨N, n1⟩ := hN
      refine ⟨N, ?_, bn, n1⟩
      rw [e1, dh.1, dl.1]; omega
    | a =>
      refine ⟨0, ?_, ?_, bn⟩
      · rw [e1, dh.1, dl.1]; omega
      · rw [e2, dh.2.1, dl.2.1]; omega
  · subst e
    have hy := (s.ey rfl).step (wl' := ab (nxP .x h l).2.1) (by omega) nz (by show _ ≤ _ + ab (meas .x h |>.fdiv (meas .x l)) * _; rw [hqq]; exact wy) (ab_nn _)
    rw [e1]
    have h2 : h.1.fdiv l.1 = q := hqq
    rw [h2] at hy
    exact hy
  · subst e
    obtain ⟨T, T0, T1, eT, he⟩ := s.eu rfl
    have p3 := p2_nn (m + n + 2)
    refine ⟨T, T0, T1, ?_, ?_⟩
    · rw [e1, e2, ← eT, ← ab_neg]
      congr 1
      grind
    · have h2 : h.1.fdiv l.1 = q := hqq
      have hs := he.step (wl' := ab (uu (nxP .x h l)) + T) (by omega) nz (by rw [h2]; have := wu T (by omega); omega) (by have := ab_nn (uu (nxP .x h l)); omega)
      rw [h2] at hs
      rw [e1]
      exact hs
  · subst e
    have h2 : h.2.1.fdiv l.2.1 = q := hqq
    have w0 : ab (h.1 * l.2.1 - l.1 * h.2.1) ≤ 0 := by rw [dh.1, dl.1]; simp
    have hs := (s.ev rfl).step (wl' := ab (uu (nxP .y h l))) (by omega) nz (by rw [h2]; have := wu 0 w0; rw [Int.add_zero] at this; exact this) (ab_nn _)
    rw [h2] at hs
    rw [e2]
    exact hs
theorem dom_of {n m : Nat} {p : P3} (h1 : ab p.1 ≤ 2 ^ n) (h2 : ab p.2.1 ≤ 2 ^ m) (h3 : ab (uu p) ≤ 2 ^ (m + n + 2)) : Dom .x n m p := ⟨h1, h2, h3⟩
def GE (S S' : List P3) : Prop := ∀ p, Gen S p ↔ Gen S' p
theorem GE.refl (S : List P3) : GE S S := fun _ => Iff.rfl
theorem GE.symm {S S' : List P3} (h : GE S S') : GE S' S := fun p => (h p).symm
theorem GE.trans {S S' S'' : List P3} (h : GE S S') (k : GE S' S'') : GE S S'' := fun p => (h p).trans (k p)
theorem ge_of {S S' : List P3} (h : ∀ s ∈ S, Gen S' s) (k : ∀ s ∈ S', Gen S s) : GE S S' := fun p => ⟨gen_le h, gen_le k⟩
theorem ge_app {S S' T T' : List P3} (h : GE S S') (k : GE T T') : GE (S ++ T) (S' ++ T') := by
  have l : ∀ {A B A' B' : List P3}, GE A A' → GE B B' → ∀ s ∈ A ++ B, Gen (A' ++ B') s := fun {A B A' B'} ha hb s hs => by
    rcases List.mem_append.mp hs with hs | hs
    · exact gen_le (fun t ht => gen_mem (List.mem_append_left _ ht)) ((ha s).mp (gen_mem hs))
    · exact gen_le (fun t ht => gen_mem (List.mem_append_right _ ht)) ((hb s).mp (gen_mem hs))
  exact ge_of (l h k) (l h.symm k.symm)
theorem ge_perm {S S' : List P3} (h : ∀ s, s ∈ S ↔ s ∈ S') : GE S S' := ge_of (fun s hs => gen_mem ((h s).mp hs)) fun s hs => gen_mem ((h s).mpr hs)
theorem ge_step (h l : P3) (n : Int) : GE [h, l] [l, mu h (pw l n)] := by
  have g1 := gen_sb [h, l]
  have g2 := gen_sb [l, mu h (pw l n)]
  have m1 : Gen [h, l] h := gen_mem (by simp)
  have m2 : Gen [h, l] l := gen_mem (by simp)
  have m3 : Gen [l, mu h (pw l n)] l := gen_mem (by simp)
  have m4 : Gen [l, mu h (pw l n)] (mu h (pw l n)) := gen_mem (by simp)
  have m5 : Gen [l, mu h (pw l n)] h := by
    have e : mu (mu h (pw l n)) (pw l (-n)) = h := by rw [mu_assoc, pw_add, Int.add_right_neg, pw_0, mu_e0]
    have := g2.mul _ _ m4 (g2.pw m3 (-n))
    rwa [e] at this
  refine ge_of (fun s hs => ?_) fun s hs => ?_
  · simp only [List.mem_cons, List.not_mem_nil, or_false] at hs
    rcases hs with rfl | rfl
    · exact m5
    · exact m3
  · simp only [List.mem_cons, List.not_mem_nil, or_false] at hs
    rcases hs with rfl | rfl
    · exact m2
    · exact g1.mul _ _ m1 (g1.pw m2 _)
theorem ge_iv (p : P3) : GE [p] [iv p] := ge_of (fun s hs => by
  rw [List.mem_singleton] at hs; subst hs
  have := (gen_sb [iv s]).inv _ (gen_mem (S := [iv s]) (s := iv s) (by simp))
  rwa [iv_iv] at this) fun s hs => by
  rw [List.mem_singleton] at hs; subst hs
  exact (gen_sb [p]).inv _ (gen_mem (S := [p]) (s := p) (by simp))
end Tbl

set_option linter.all false
set_option maxHeartbeats 4000000
namespace Tbl
theorem ge_e0 {S os : List P3} (h : ∀ o ∈ os, o = e0) : GE (S ++ os) S := ge_of (fun s hs => by
  rcases List.mem_append.mp hs with hs | hs
  · exact gen_mem hs
  · rw [h s hs]; exact (gen_sb S).one) fun s hs => gen_mem (List.mem_append_left _ hs)
theorem zz_sb (c : Int) : Sb fun p => ∃ k, p = zz (k * c) := ⟨⟨0, by simp⟩, fun p q ⟨k, hk⟩ ⟨l, hl⟩ => ⟨k + l, by rw [hk, hl, zz_add, Int.add_mul]⟩, fun p ⟨k, hk⟩ => ⟨-k, by rw [hk, iv_zz, Int.neg_mul]⟩⟩
theorem gen_zz {c a : Int} (h : Gen [zz c] (zz a)) : c ∣ a := by
  obtain ⟨k, hk⟩ := h _ (zz_sb c) fun s hs => by rw [List.mem_singleton] at hs; exact ⟨1, by rw [hs, Int.one_mul]⟩
  have := congrArg (·.2.2) hk
  exact ⟨k, by rw [Int.mul_comm]; exact this⟩
theorem gen_nil {p : P3} (h : Gen [] p) : p = e0 := h (· = e0) ⟨rfl, fun p q hp hq => by rw [hp, hq, mu_e0], fun p hp => by rw [hp]; rfl⟩ fun s hs => nomatch hs
/-- the area brought down by the home number -/
def lowA (c : Int) (r : P3) : P3 := nxP .a r (zz c)
theorem lowA_eq {c : Int} (hc : 0 < c) (r : P3) : lowA c r = (r.1, r.2.1, r.2.2 % c) := by
  unfold lowA nxP
  rw [pw_zz, mu_zz]
  refine p3_ext rfl rfl ?_
  show r.2.2 + -(r.2.2.fdiv c) * c = r.2.2 % c
  rw [Int.fdiv_eq_ediv_of_nonneg _ (by omega)]
  have := Int.emod_add_mul_ediv r.2.2 c
  grind
theorem ge_lowA (c : Int) (r : P3) : GE [r, zz c] [lowA c r, zz c] := (ge_step r (zz c) (-((meas .a r).fdiv (meas .a (zz c))))).trans (ge_perm fun s => by simp [lowA, nxP, or_comm])
theorem ge_lowL (c : Int) : ∀ L : List P3, GE (L ++ [zz c]) (L.map (lowA c) ++ [zz c])
  | [] => GE.refl _
  | r :: L => by
    have h1 : GE ((r :: L) ++ [zz c]) ([r, zz c] ++ (L ++ [zz c])) := ge_perm fun s => by simp [or_comm, or_left_comm]
    have h2 := h1.trans (ge_app (ge_lowA c r) (ge_lowL c L))
    exact h2.trans (ge_perm fun s => by simp [or_comm, or_left_comm])
/-- rows before their areas are brought down -/
def Raw (L : List P3) : Prop := L = [] ∨ (∃ r, L = [r] ∧ (0 < r.1 ∨ r.1 = 0 ∧ 0 < r.2.1)) ∨ ∃ r s, L = [r, s] ∧ s.1 = 0 ∧ 0 < r.1 ∧ 0 < s.2.1 ∧ 0 ≤ r.2.1 ∧ r.2.1 < s.2.1
theorem raw_home {told L ts ops : List P3} {c : Int} (hL : Raw L) (hc : 0 < c) (h1 : GE told (L ++ ts)) (h2 : GE ts ([zz c] ++ ops)) (ho : ∀ o ∈ ops, o = e0) (hd : ∀ r s, L = [r, s] → zz (r.1 * s.2.1) ∈ ts) : Led (L.map (lowA c)) c ∧ GE told (L.map (lowA c) ++ [zz c]) := by
  have h3 : GE ts [zz c] := h2.trans (ge_e0 ho)
  refine ⟨⟨by omega, fun _ x hx => ?_, ?_⟩, (h1.trans (ge_app (GE.refl L) h3)).trans (ge_lowL c L)⟩
  · obtain ⟨r, _, rfl⟩ := List.mem_map.mp hx
    rw [lowA_eq hc]
    exact ⟨Int.emod_nonneg _ (by omega), Int.emod_lt_of_pos _ hc⟩
  · rcases hL with rfl | ⟨r, rfl, hr⟩ | ⟨r, s, rfl, sx, rp, sp, q0, q1⟩
    · exact .inl rfl
    · exact .inr (.inl ⟨_, rfl, by rw [lowA_eq hc]; exact hr⟩)
    · refine .inr (.inr ⟨_, _, rfl, ?_⟩)
      rw [lowA_eq hc, lowA_eq hc]
      exact ⟨sx, rp, sp, q0, q1, hc, gen_zz ((h3 _).mp (gen_mem (hd r s rfl)))⟩
theorem raw_none {told L ts ops : List P3} (hL : Raw L) (h1 : GE told (L ++ ts)) (h2 : GE ts ops) (ho : ∀ o ∈ ops, o = e0) (hd : ∀ r s, L = [r, s] → zz (r.1 * s.2.1) ∈ ts) : Led L 0 ∧ GE told (L ++ [zz 0]) := by
  have h3 : GE ts [] := h2.trans (ge_e0 (S := []) ho)
  refine ⟨⟨by omega, fun h => by omega, ?_⟩, (h1.trans (ge_app (GE.refl L) h3)).trans ?_⟩
  · rcases hL with rfl | ⟨r, rfl, hr⟩ | ⟨r, s, rfl, sx, rp, sp, q0, q1⟩
    · exact .inl rfl
    · exact .inr (.inl ⟨_, rfl, hr⟩)
    · exfalso
      have := gen_nil ((h3 _).mp (gen_mem (hd r s rfl)))
      have h5 : r.1 * s.2.1 = 0 := congrArg (·.2.2) this
      have := Int.mul_pos rp sp
      omega
  · rw [List.append_nil]
    exact (ge_e0 (S := L) (os := [zz 0]) fun o ho => by rw [List.mem_singleton] at ho; exact ho).symm
theorem ge_both {told ops1 ops2 : List P3} {f s : P3} (h1 : GE told ([f] ++ ops1)) (h2 : GE ops1 ([s] ++ ops2)) (sx : s.1 = 0) : GE told ([nxP .y f s, s] ++ (ops2 ++ [zz ((nxP .y f s).1 * s.2.1 - s.1 * (nxP .y f s).2.1)])) := by
  have e1 : GE told ([f, s] ++ ops2) := (h1.trans (ge_app (GE.refl [f]) h2)).trans (ge_perm fun t => by simp)
  have e2 : GE [f, s] [nxP .y f s, s] := (ge_step f s (-((meas .y f).fdiv (meas .y s)))).trans (ge_perm fun t => by simp [nxP, or_comm])
  have e3 := e1.trans (ge_app e2 (GE.refl ops2))
  refine e3.trans (ge_of (fun t ht => ?_) fun t ht => ?_)
  · exact gen_mem (by simp at ht ⊢; rcases ht with h | h | h <;> simp [h])
  · simp only [List.mem_append, List.mem_cons, List.not_mem_nil, or_false] at ht
    have G := gen_sb ([nxP .y f s, s] ++ ops2)
    have m1 : Gen ([nxP .y f s, s] ++ ops2) (nxP .y f s) := gen_mem (by simp)
    have m2 : Gen ([nxP .y f s, s] ++ ops2) s := gen_mem (by simp)
    rcases ht with (rfl | rfl) | h | rfl
    · exact m1
    · exact m2
    · exact gen_mem (by simp [h])
    · have e : zz ((nxP .y f s).1 * s.2.1 - s.1 * (nxP .y f s).2.1) = mu (mu (mu (nxP .y f s) s) (iv (nxP .y f s))) (iv s) := by
        generalize nxP .y f s = g
        exact (p3_ext (by simp only [mu, iv]; omega) (by simp only [mu, iv]; omega) (by simp only [mu, iv]; grind))
      rw [e]
      exact G.mul _ _ (G.mul _ _ (G.mul _ _ m1 m2) (G.inv _ m1)) (G.inv _ m2)
theorem nx_y {f s : P3} (fx : 0 < f.1) (sx : s.1 = 0) (sp : 0 < s.2.1) : (nxP .y f s).1 = f.1 ∧ 0 ≤ (nxP .y f s).2.1 ∧ (nxP .y f s).2.1 < s.2.1 := by
  have e1 : (nxP .y f s).1 = f.1 := by show f.1 + -(_) * s.1 = _; rw [sx]; omega
  have e2 : (nxP .y f s).2.1 = f.2.1 % s.2.1 := by
    show f.2.1 + -(f.2.1.fdiv s.2.1) * s.2.1 = _
    rw [Int.fdiv_eq_ediv_of_nonneg _ (by omega)]
    have := Int.emod_add_mul_ediv f.2.1 s.2.1
    grind
  rw [e2]
  exact ⟨e1, Int.emod_nonneg _ (by omega), Int.emod_lt_of_pos _ sp⟩
end Tbl

set_option linter.all false
set_option maxHeartbeats 4000000
namespace Tbl
theorem sb_x : Sb fun p => p.1 = 0 := ⟨rfl, fun p q hp hq => by show p.1 + q.1 = 0; omega, fun p hp => by show -p.1 = 0; omega⟩
theorem sb_end : Sb fun p => p.1 = 0 ∧ p.2.1 = 0 := ⟨⟨rfl, rfl⟩, fun p q hp hq => ⟨by show p.1 + q.1 = 0; omega, by show p.2.1 + q.2.1 = 0; omega⟩, fun p hp => ⟨by show -p.1 = 0; omega, by show -p.2.1 = 0; omega⟩⟩
theorem sb_line (x y : Int) : Sb fun p => x * p.2.1 = p.1 * y := ⟨by simp, fun p q hp hq => by show x * (p.2.1 + q.2.1) = (p.1 + q.1) * y; grind, fun p hp => by show x * -p.2.1 = -p.1 * y; grind⟩
theorem sb_cyc (a b m u : Int) : Sb fun p => ∃ n, p.1 = n * a ∧ p.2.1 = n * b ∧ m * uu p = n * u := by
  refine ⟨⟨0, by simp, by simp, by simp [uu]⟩, fun p q ⟨n, h1, h2, h3⟩ ⟨k, g1, g2, g3⟩ => ⟨n + k, ?_, ?_, ?_⟩, fun p ⟨n, h1, h2, h3⟩ => ⟨-n, ?_, ?_, ?_⟩⟩
  · show p.1 + q.1 = _; grind
  · show p.2.1 + q.2.1 = _; grind
  · rw [uu_mu, h1, h2, g1, g2]; grind
  · show -p.1 = _; grind
  · show -p.2.1 = _; grind
  · rw [uu_iv]; grind
theorem ex_of_not {told : List P3} {U : P3 → Prop} (hU : Sb U) {p : P3} (hp : Gen told p) (h : ¬ U p) : ∃ t ∈ told, ¬ U t := by
  apply Classical.byContradiction
  intro hn
  refine h (hp U hU fun s hs => ?_)
  apply Classical.byContradiction
  intro h2
  exact hn ⟨s, hs, h2⟩
theorem ab_pos {x : Int} (h : x ≠ 0) : 1 ≤ ab x := by unfold ab; omega
theorem ab_fac {a n b : Int} (h : a = n * b) (h0 : a ≠ 0) : ab b ≤ ab a ∧ ab n ≤ ab a := by
  have nb : b ≠ 0 := fun z => h0 (by rw [h, z, Int.mul_zero])
  have nn : n ≠ 0 := fun z => h0 (by rw [h, z, Int.zero_mul])
  rw [h, ab_mul]
  have h1 := ab_pos nb
  have h2 := ab_pos nn
  have m1 := mulle (a := 1) (b := ab n) (c := ab b) (d := ab b) (by omega) h2 (by omega) (Int.le_refl _)
  have m2 := mulle (a := ab n) (b := ab n) (c := 1) (d := ab b) (by omega) (Int.le_refl _) (by omega) h1
  omega
structure LedSz (X Y : Int) (L : List P3) (c : Int) : Prop where
  x : ∀ r ∈ L, ab r.1 ≤ X
  y : ∀ r ∈ L, ab r.2.1 ≤ 2 * (X * X)
  a : ∀ r ∈ L, ab r.2.2 ≤ Y
  c : c ≤ Y
theorem led_sz {told L : List P3} {c X U : Int} (hL : Led L c) (hg : GE told (L ++ [zz c])) (X1 : 1 ≤ X) (U0 : 0 ≤ U) (hx : ∀ p ∈ told, ab p.1 ≤ X ∧ ab p.2.1 ≤ X ∧ ab (uu p) ≤ U) : LedSz X (2 * (X * X * X) + X * U) L c := by
  have c0 := hL.1
  have ha := hL.2.1
  have mem : ∀ t ∈ told, InT L c t := fun t ht => (int_gen hL t).mpr ((hg t).mp (gen_mem ht))
  have back : ∀ p, InT L c p → Gen told p := fun p hp => (hg p).mpr ((int_gen hL p).mp hp)
  have gc : Gen told (zz c) := back _ (by have := int_home L c 1; rwa [Int.one_mul] at this)
  have gr : ∀ r ∈ L, Gen told r := fun r hr => back _ (int_row hL hr)
  have XX : X ≤ X * X := by have := mulle (a := 1) (b := X) (c := X) (d := X) (by omega) X1 (by omega) (Int.le_refl _); omega
  have XXX : X * X ≤ X * X * X := by have := mulle (a := X * X) (b := X * X) (c := 1) (d := X) (by omega) (Int.le_refl _) (by omega) X1; omega
  have XU : U ≤ X * U := by have := mulle (a := 1) (b := X) (c := U) (d := U) (by omega) X1 U0 (Int.le_refl _); omega
  have Z0 : 0 ≤ X * X * X := by omega
  obtain ⟨Z, hZ⟩ : ∃ Z, Z = X * X * X := ⟨_, rfl⟩
  obtain ⟨W, hW⟩ : ∃ W, W = X * U := ⟨_, rfl⟩
  obtain ⟨Q, hQ⟩ : ∃ Q, Q = X * X := ⟨_, rfl⟩
  rcases hL.2.2 with rfl | ⟨r, rfl, hr⟩ | ⟨r, s, rfl, sx, rp, sp, q0, q1, cp, hd⟩
  · refine ⟨(fun r hr => nomatch hr), (fun r hr => nomatch hr), (fun r hr => nomatch hr), ?_⟩
    rw [← hZ] at Z0 ⊢
    rw [← hW] at XU ⊢
    rcases Int.lt_or_eq_of_le c0 with h | h
    · obtain ⟨t, ht, hn⟩ := ex_of_not (U := fun p => p = e0) ⟨rfl, fun p q hp hq => by rw [hp, hq, mu_e0], fun p hp => by rw [hp]; rfl⟩ gc (fun z => by have := congrArg (·.2.2) z; simp at this; omega)
      obtain ⟨k, rfl⟩ := mem t ht
      have hu := (hx _ ht).2.2
      have e : uu (zz (k * c)) = 2 * (k * c) := by simp [uu]
      rw [e] at hu
      have kc : k * c ≠ 0 := fun z => hn (by rw [z])
      have := (ab_fac (rfl : k * c = k * c) kc).1
      unfold ab at *; omega
    · omega
  · obtain ⟨t, ht, hn⟩ := ex_of_not sb_end (gr r (by simp)) (fun z => by omega)
    obtain ⟨m, k, f1, f2, f3⟩ := int_1 (mem t ht)
    have m0 : m ≠ 0 := fun z => hn ⟨by rw [f1, z, Int.zero_mul], by rw [f2, z, Int.zero_mul]⟩
    obtain ⟨b1, b2, b3⟩ := hx t ht
    have rx : ab r.1 ≤ X := by
      by_cases z : t.1 = 0
      · have : r.1 = 0 := by rw [z] at f1; rcases Int.mul_eq_zero.mp f1.symm with h | h; exact absurd h m0; exact h
        rw [this]; unfold ab; omega
      · have := (ab_fac f1 z).1; omega
    have ry : ab r.2.1 ≤ X := by
      by_cases z : t.2.1 = 0
      · have : r.2.1 = 0 := by rw [z] at f2; rcases Int.mul_eq_zero.mp f2.symm with h | h; exact absurd h m0; exact h
        rw [this]; unfold ab; omega
      · have := (ab_fac f2 z).1; omega
    have nle : ∀ t ∈ told, ∀ n : Int, t.1 = n * r.1 → t.2.1 = n * r.2.1 → ab n ≤ X := fun t ht n g1 g2 => by
      obtain ⟨u1, u2, _⟩ := hx t ht
      by_cases z : n = 0
      · rw [z]; unfold ab; omega
      · rcases hr with h | ⟨_, h⟩
        · have := (ab_fac g1 (fun z2 => by rw [z2] at g1; rcases Int.mul_eq_zero.mp g1.symm with h | h <;> omega)).2; omega
        · have := (ab_fac g2 (fun z2 => by rw [z2] at g2; rcases Int.mul_eq_zero.mp g2.symm with h | h <;> omega)).2; omega
    have uT : ∀ t : P3, ∀ n k : Int, t.1 = n * r.1 → t.2.1 = n * r.2.1 → t.2.2 = (n * r.2.2 + r.1 * r.2.1 * tr n) + k * c → uu t = n * uu r + 2 * (k * c) := fun t n k g1 g2 g3 => by
      have := tr2 n
      unfold uu
      rw [g1, g2, g3]
      grind
    have hcW : c ≤ W := by
      rcases Int.lt_or_eq_of_le c0 with h | h
      · obtain ⟨i, hi, hni⟩ := ex_of_not (sb_cyc r.1 r.2.1 m (uu t)) gc (fun ⟨n, z1, z2, z3⟩ => by
          have n0 : n = 0 := by
            rcases hr with h' | ⟨_, h'⟩
            · rcases Int.mul_eq_zero.mp z1.symm with h | h <;> omega
            · rcases Int.mul_eq_zero.mp z2.symm with h | h <;> omega
          have e : uu (zz c) = 2 * c := by simp [uu]
          rw [n0, Int.zero_mul, e] at z3
          rcases Int.mul_eq_zero.mp z3 with h | h <;> omega)
        obtain ⟨n, l, g1, g2, g3⟩ := int_1 (mem i hi)
        have u1 := uT t m k f1 f2 f3
        have u2 := uT i n l g1 g2 g3
        have e : m * uu i - n * uu t = (2 * (m * l - n * k)) * c := by rw [u1, u2]; grind
        have ne : m * uu i - n * uu t ≠ 0 := fun z => hni ⟨n, g1, g2, by omega⟩
        have h1 := ab_sub (m * uu i) (n * uu t)
        rw [ab_mul, ab_mul] at h1
        have h2 := mulle (ab_nn _) (nle t ht m f1 f2) (ab_nn _) (hx i hi).2.2
        have h3 := mulle (ab_nn _) (nle i hi n g1 g2) (ab_nn _) b3
        have e2 : m * uu i - n * uu t = (m * l - n * k) * (2 * c) := by rw [e]; grind
        have h4 := (ab_fac e2 ne).1
        rw [← hW] at h2 h3
        unfold ab at h4 h1
        unfold ab at h2 h3
        omega
      · have := Int.mul_nonneg (show 0 ≤ X by omega) U0
        omega
    have hra : ab r.2.2 ≤ 2 * Z + W := by
      rcases Int.lt_or_eq_of_le c0 with h | h
      · obtain ⟨a0, a1⟩ := ha h r (by simp)
        have := Int.mul_nonneg (show 0 ≤ X by omega) (show 0 ≤ X * X by omega)
        unfold ab
        rw [Int.mul_comm] at this
        omega
      · have u1 := uT t m k f1 f2 f3
        rw [← h, Int.mul_zero, Int.mul_zero, Int.add_zero] at u1
        have h5 : ab (uu r) ≤ U := by
          by_cases z : uu r = 0
          · rw [z]; unfold ab; omega
          · have nz : uu t ≠ 0 := fun y => by rw [y] at u1; rcases Int.mul_eq_zero.mp u1.symm with h | h; exact m0 h; exact z h
            have := (ab_fac u1 nz).1
            omega
        have h6 : ab (r.1 * r.2.1) ≤ X * X := by rw [ab_mul]; exact mulle (ab_nn _) rx (ab_nn _) ry
        have h7 : uu r = 2 * r.2.2 - r.1 * r.2.1 := rfl
        generalize r.1 * r.2.1 = g at h6 h7
        unfold ab at *
        omega
    have nn := Int.mul_nonneg (show 0 ≤ X * X by omega) (show 0 ≤ X by omega)
    rw [← hZ, ← hW]
    rw [← hZ] at Z0
    refine ⟨fun x hx => ?_, fun x hx => ?_, fun x hx => ?_, by omega⟩
    · rw [List.mem_singleton.mp hx]; exact rx
    · rw [List.mem_singleton.mp hx]; omega
    · rw [List.mem_singleton.mp hx]; exact hra
  · obtain ⟨t, ht, hn⟩ := ex_of_not sb_x (gr r (by simp)) (fun z => by omega)
    obtain ⟨m, n, k, f1, f2, f3⟩ := int_2 sx (mem t ht)
    obtain ⟨b1, b2, b3⟩ := hx t ht
    have rx : ab r.1 ≤ X := by have := (ab_fac f1 hn).1; omega
    obtain ⟨i, hi, hni⟩ := ex_of_not (sb_line t.1 t.2.1) (gr s (by simp)) (fun z => by
      rw [sx, Int.zero_mul] at z
      rcases Int.mul_eq_zero.mp z with h | h
      · exact hn h
      · omega)
    obtain ⟨d1, d2, d3⟩ := hx i hi
    have hU := int_sb hL
    have hq := hU.mul _ _ (hU.pw (mem i hi) t.1) (hU.pw (mem t ht) (-i.1))
    obtain ⟨m', n', k', g1, g2, g3⟩ := int_2 sx hq
    have g1 : t.1 * i.1 + -i.1 * t.1 = m' * r.1 := g1
    have g2 : t.1 * i.2.1 + -i.1 * t.2.1 = m' * r.2.1 + n' * s.2.1 := g2
    have m0 : m' = 0 := by
      have : m' * r.1 = 0 := by rw [← g1]; grind
      rcases Int.mul_eq_zero.mp this with h | h <;> omega
    rw [m0, Int.zero_mul, Int.zero_add] at g2
    have nz : t.1 * i.2.1 + -i.1 * t.2.1 ≠ 0 := fun z => hni (by rw [Int.neg_mul] at z; omega)
    have h1 := (ab_fac g2 nz).1
    have h2 := ab_add (t.1 * i.2.1) (-i.1 * t.2.1)
    rw [ab_mul, ab_mul, ab_neg] at h2
    have h3 := mulle (ab_nn _) b1 (ab_nn _) d2
    have h4 := mulle (ab_nn _) d1 (ab_nn _) b2
    have sy : ab s.2.1 ≤ 2 * (X * X) := by omega
    have ec : c ≤ 2 * (X * X * X) := by
      have h5 : c ≤ r.1 * s.2.1 := Int.le_of_dvd (Int.mul_pos rp sp) hd
      have h6 : r.1 * s.2.1 ≤ X * (2 * (X * X)) := mulle (by omega) (by unfold ab at rx; omega) (by omega) (by unfold ab at sy; omega)
      have h7 : X * (2 * (X * X)) = 2 * (X * X * X) := by grind
      omega
    have nn := Int.mul_nonneg (show 0 ≤ X by omega) U0
    refine ⟨fun x hx => ?_, fun x hx => ?_, fun x hx => ?_, by omega⟩
    · simp only [List.mem_cons, List.not_mem_nil, or_false] at hx
      rcases hx with rfl | rfl
      · exact rx
      · rw [sx]; unfold ab; omega
    · simp only [List.mem_cons, List.not_mem_nil, or_false] at hx
      rcases hx with rfl | rfl
      · unfold ab at *; omega
      · exact sy
    · obtain ⟨a0, a1⟩ := ha cp x hx
      unfold ab; omega
end Tbl

set_option linter.all false
set_option maxHeartbeats 4000000
namespace Tbl
def EndOk (L : List P3) (p : P3) : Prop := match L with
  | [] => p.1 = 0 ∧ p.2.1 = 0
  | [r] => ∃ n, p.1 = n * r.1 ∧ p.2.1 = n * r.2.1
  | r :: s :: _ => ∃ m n, p.1 = m * r.1 ∧ p.2.1 = m * r.2.1 + n * s.2.1
def epL (L : List P3) (p : P3) : List Int := match L with
  | [] => []
  | [r] => [if 0 < r.1 then p.1.fdiv r.1 else p.2.1.fdiv r.2.1]
  | r :: s :: _ => [p.1.fdiv r.1, (p.2.1 - p.1.fdiv r.1 * r.2.1).fdiv s.2.1]
def lpF (L : List P3) (ns : List Int) : P3 := (List.zipWith pw L ns).foldl mu e0
def htL (L : List P3) (p : P3) : Int := p.2.2 - (lpF L (epL L p)).2.2
theorem lpF_1 (r : P3) (n : Int) : lpF [r] [n] = pw r n := by unfold lpF; show mu e0 (pw r n) = _; rw [e0_mu]
theorem lpF_2 (r s : P3) (m n : Int) : lpF [r, s] [m, n] = mu (pw r m) (pw s n) := by unfold lpF; show mu (mu e0 (pw r m)) (pw s n) = _; rw [e0_mu]
theorem ep_len {L : List P3} {c : Int} (hL : Led L c) (p : P3) : (epL L p).length = L.length := by
  rcases hL.2.2 with rfl | ⟨r, rfl, _⟩ | ⟨r, s, rfl, _⟩ <;> rfl
theorem fd_mul {a b : Int} (h : 0 < b) : (a * b).fdiv b = a := by rw [Int.fdiv_eq_ediv_of_nonneg _ (by omega), Int.mul_ediv_cancel _ (by omega)]
/-- over an end the ledge's product has this end -/
theorem lp_end {L : List P3} {c : Int} (hL : Led L c) {p : P3} (h : EndOk L p) : p = mu (lpF L (epL L p)) (zz (htL L p)) := by
  have fin : ∀ q : P3, q = lpF L (epL L p) → p.1 = q.1 → p.2.1 = q.2.1 → p = mu (lpF L (epL L p)) (zz (htL L p)) := fun q hq h1 h2 => by
    rw [mu_zz, ← hq]
    exact p3_ext h1 h2 (by unfold htL; rw [← hq]; show p.2.2 = q.2.2 + (p.2.2 - q.2.2); omega)
  rcases hL.2.2 with rfl | ⟨r, rfl, hr⟩ | ⟨r, s, rfl, sx, rp, sp, _⟩
  · exact fin e0 rfl h.1 h.2
  · obtain ⟨n, h1, h2⟩ := h
    have e : epL [r] p = [n] := by
      show [if 0 < r.1 then p.1.fdiv r.1 else p.2.1.fdiv r.2.1] = [n]
      rcases hr with h | ⟨h, h'⟩
      · rw [if_pos h, h1, fd_mul h]
      · rw [if_neg (by omega), h2, fd_mul h']
    exact fin (pw r n) (by rw [e, lpF_1]) h1 h2
  · obtain ⟨m, n, h1, h2⟩ := h
    have e : epL [r, s] p = [m, n] := by
      show [p.1.fdiv r.1, (p.2.1 - p.1.fdiv r.1 * r.2.1).fdiv s.2.1] = [m, n]
      rw [h1, fd_mul rp, h2, show m * r.2.1 + n * s.2.1 - m * r.2.1 = n * s.2.1 by omega, fd_mul sp]
    refine fin (mu (pw r m) (pw s n)) (by rw [e, lpF_2]) ?_ h2
    show p.1 = m * r.1 + n * s.1
    rw [sx, h1]; omega
theorem lp_int {L : List P3} {c : Int} (hL : Led L c) (p : P3) : InT L c (lpF L (epL L p)) := by
  have hU := int_sb hL
  have mem : ∀ r ∈ L, InT L c r := fun r hr => int_row hL hr
  rcases hL.2.2 with rfl | ⟨r, rfl, hr⟩ | ⟨r, s, rfl, _⟩
  · exact hU.one
  · show InT _ _ (lpF [r] [_])
    rw [lpF_1]; exact hU.pw (mem r (by simp)) _
  · show InT _ _ (lpF [r, s] [_, _])
    rw [lpF_2]; exact hU.mul _ _ (hU.pw (mem r (by simp)) _) (hU.pw (mem s (by simp)) _)
theorem int_endok {L : List P3} {c : Int} (hL : Led L c) {p : P3} (h : InT L c p) : EndOk L p := by
  rcases hL.2.2 with rfl | ⟨r, rfl, hr⟩ | ⟨r, s, rfl, sx, _⟩
  · obtain ⟨k, rfl⟩ := h
    exact ⟨rfl, rfl⟩
  · obtain ⟨n, k, h1, h2, _⟩ := int_1 h
    exact ⟨n, h1, h2⟩
  · obtain ⟨m, n, k, h1, h2, _⟩ := int_2 sx h
    exact ⟨m, n, h1, h2⟩
theorem sb_can {U : P3 → Prop} (hU : Sb U) {p q : P3} (h : U p) : U (mu p q) ↔ U q := ⟨fun h2 => by
  have h3 := hU.mul _ _ (hU.inv _ h) h2
  rwa [← mu_assoc, iv_mu, e0_mu] at h3, fun h2 => hU.mul _ _ h h2⟩
/-- in the table: over an end, and at a height that is there -/
theorem int_ht {L : List P3} {c : Int} (hL : Led L c) {p : P3} (h : EndOk L p) : InT L c p ↔ c ∣ htL L p := by
  have e := lp_end hL h
  have hU := int_sb hL
  conv => lhs; rw [e]
  rw [sb_can hU (lp_int hL p), int_zz hL]
theorem int_iff {L : List P3} {c : Int} (hL : Led L c) (p : P3) : InT L c p ↔ EndOk L p ∧ c ∣ htL L p := ⟨fun h => ⟨int_endok hL h, (int_ht hL (int_endok hL h)).mp h⟩, fun ⟨h, h2⟩ => (int_ht hL h).mpr h2⟩
/-- forms that tell ends -/
def fvF (f : Int × Int) (p : P3) : Int := f.1 * p.1 + f.2 * p.2.1
structure FoOk (L : List P3) (f1 : Int × Int) (m1 : Int) (f2 : Int × Int) (m2 : Int) : Prop where
  p1 : 0 ≤ m1
  p2 : 0 ≤ m2
  iff : ∀ p, EndOk L p ↔ m1 ∣ fvF f1 p ∧ m2 ∣ fvF f2 p
theorem fo_0 : FoOk [] (1, 0) 0 (0, 1) 0 := ⟨Int.le_refl _, Int.le_refl _, fun p => by
  unfold fvF EndOk
  rw [Int.zero_dvd, Int.zero_dvd]
  constructor
  · rintro ⟨h1, h2⟩; constructor <;> (show _ * _ + _ * _ = 0) <;> rw [h1, h2] <;> rfl
  · rintro ⟨h1, h2⟩
    have h1 : 1 * p.1 + 0 * p.2.1 = 0 := h1
    have h2 : 0 * p.1 + 1 * p.2.1 = 0 := h2
    constructor <;> omega⟩
theorem fo_1 {r : P3} {f g : Int} (hr : 0 < r.1 ∨ r.1 = 0 ∧ 0 < r.2.1) (h : f * r.1 + g * r.2.1 = ((Nat.gcd r.1.natAbs r.2.1.natAbs : Nat) : Int)) : FoOk [r] (r.2.1, -r.1) 0 (f, g) ((Nat.gcd r.1.natAbs r.2.1.natAbs : Nat) : Int) := by
  have d0 : 0 < ((Nat.gcd r.1.natAbs r.2.1.natAbs : Nat) : Int) := by
    have : 0 < Nat.gcd r.1.natAbs r.2.1.natAbs := by
      rcases hr with h | ⟨_, h⟩
      · exact Nat.gcd_pos_of_pos_left _ (by omega)
      · exact Nat.gcd_pos_of_pos_right _ (by omega)
    omega
  generalize ((Nat.gcd r.1.natAbs r.2.1.natAbs : Nat) : Int) = d at h d0
  refine ⟨Int.le_refl _, by omega, fun p => ?_⟩
  unfold fvF EndOk
  rw [Int.zero_dvd]
  constructor
  · rintro ⟨n, h1, h2⟩
    refine ⟨?_, n, ?_⟩
    · show r.2.1 * p.1 + -r.1 * p.2.1 = 0
      rw [h1, h2]; grind
    · show f * p.1 + g * p.2.1 = d * n
      rw [h1, h2, ← h]; grind
  · rintro ⟨h1, n, h2⟩
    have h1 : r.2.1 * p.1 + -r.1 * p.2.1 = 0 := h1
    have h2 : f * p.1 + g * p.2.1 = d * n := h2
    refine ⟨n, ?_, ?_⟩
    · have : d * (p.1 - n * r.1) = 0 := by
        have e : d * p.1 = (d * n) * r.1 := by rw [← h2, ← h]; grind
        grind
      rcases Int.mul_eq_zero.mp this with h | h <;> omega
    · have : d * (p.2.1 - n * r.2.1) = 0 := by
        have e : d * p.2.1 = (d * n) * r.2.1 := by rw [← h2, ← h]; grind
        grind
      rcases Int.mul_eq_zero.mp this with h | h <;> omega
theorem fo_2 {r s : P3} (sx : s.1 = 0) (rp : 0 < r.1) (sp : 0 < s.2.1) : FoOk [r, s] (1, 0) r.1 (-r.2.1, r.1) (r.1 * s.2.1) := by
  refine ⟨by omega, Int.le_of_lt (Int.mul_pos rp sp), fun p => ?_⟩
  unfold fvF EndOk
  constructor
  · rintro ⟨m, n, h1, h2⟩
    refine ⟨⟨m, ?_⟩, n, ?_⟩
    · show 1 * p.1 + 0 * p.2.1 = _
      rw [h1]; grind
    · show -r.2.1 * p.1 + r.1 * p.2.1 = _
      rw [h1, h2]; grind
  · rintro ⟨⟨m, h1⟩, n, h2⟩
    have h1 : 1 * p.1 + 0 * p.2.1 = r.1 * m := h1
    have h2 : -r.2.1 * p.1 + r.1 * p.2.1 = r.1 * s.2.1 * n := h2
    have h3 : p.1 = m * r.1 := by rw [Int.mul_comm]; omega
    refine ⟨m, n, h3, ?_⟩
    have : r.1 * (p.2.1 - (m * r.2.1 + n * s.2.1)) = 0 := by rw [h3] at h2; grind
    rcases Int.mul_eq_zero.mp this with h | h <;> omega
def IsOrd (o : Option Int) (S : Int → Prop) : Prop := match o with
  | none => ∀ n, n ≠ 0 → ¬ S n
  | some k => 0 < k ∧ ∀ n, S n ↔ k ∣ n
theorem IsOrd.imp {o : Option Int} {S S' : Int → Prop} (h : IsOrd o S) (hs : ∀ n, S n ↔ S' n) : IsOrd o S' := by
  match o, h with
  | none, h => exact fun n hn h2 => h n hn ((hs n).mpr h2)
  | some k, h => exact ⟨h.1, fun n => (hs n).symm.trans (h.2 n)⟩
end Tbl

set_option linter.all false
set_option maxHeartbeats 4000000
set_option exponentiation.threshold 50000
namespace Tbl
def GJ (i : Nat) (x y : Nat) : Prop := x < 2 ^ 20000 ∧ y < 2 ^ 20000 ∧ (i = 0 ∨ (0 < i ∧ y < x ∧ 2 ^ (i - 1) * (x * y) < 2 ^ 40003))
theorem GJ.step {i x y : Nat} (I : GJ i x y) (nz : y ≠ 0) : GJ (i + 1) y (x % y) := by
  obtain ⟨hx, hy, hp⟩ := I
  have hm : x % y < y := Nat.mod_lt _ (by omega)
  refine ⟨hy, by omega, .inr ⟨Nat.succ_pos _, hm, ?_⟩⟩
  rw [Nat.add_sub_cancel]
  rcases hp with rfl | ⟨hi, hl, hp⟩
  · rw [Nat.pow_zero, Nat.one_mul]
    have := Nat.mul_lt_mul_of_lt_of_lt hy (Nat.lt_trans hm hy)
    have e : (2 : Nat) ^ 20000 * 2 ^ 20000 < 2 ^ 40003 := by rw [← Nat.pow_add]; exact Nat.pow_lt_pow_right (by decide) (by decide)
    exact Nat.lt_trans this e
  · obtain ⟨j, rfl⟩ : ∃ j, i = j + 1 := ⟨i - 1, by omega⟩
    rw [Nat.add_sub_cancel] at hp
    have h2 : 2 * (x % y) ≤ x := by
      have e := Nat.div_add_mod x y
      have q : 1 ≤ x / y := Nat.div_pos (by omega) (by omega)
      have := Nat.mul_le_mul_left y q
      omega
    have h3 : 2 * (y * (x % y)) ≤ x * y := by
      have := Nat.mul_le_mul_left y h2
      rw [Nat.mul_comm x y]
      have e : y * (2 * (x % y)) = 2 * (y * (x % y)) := by grind
      omega
    have h4 := Nat.mul_le_mul_left (2 ^ j) h3
    rw [Nat.pow_succ, Nat.mul_assoc]
    exact Nat.lt_of_le_of_lt h4 hp
theorem GJ.out {i x y : Nat} (I : GJ i x y) (hi : 41000 ≤ i) : y = 0 := by
  obtain ⟨_, _, z | ⟨_, hl, hp⟩⟩ := I
  · omega
  · apply Classical.byContradiction
    intro z
    have h1 : 1 ≤ x * y := Nat.mul_pos (by omega) (by omega)
    have h2 := Nat.mul_le_mul_left (2 ^ (i - 1)) h1
    rw [Nat.mul_one] at h2
    have e : (2 : Nat) ^ 40003 < 2 ^ (i - 1) := Nat.pow_lt_pow_right (by decide) (by omega)
    omega
end Tbl

set_option linter.all false
set_option maxHeartbeats 1000000
namespace Bz
/-- (a, b, r) with a * f + b * s = r -/
structure Tr where
  a : Int
  b : Int
  r : Int
def stp (l h : Tr) : Tr := ⟨l.a - l.r.fdiv h.r * h.a, l.b - l.r.fdiv h.r * h.b, l.r - l.r.fdiv h.r * h.r⟩
structure In (f s : Int) (l h : Tr) : Prop where
  el : l.a * f + l.b * s = l.r
  eh : h.a * f + h.b * s = h.r
  g : Nat.gcd l.r.natAbs h.r.natAbs = Nat.gcd f.natAbs s.natAbs
  fa : h.a.natAbs * l.r.natAbs + l.a.natAbs * h.r.natAbs ≤ f.natAbs + 2 * s.natAbs
  fb : h.b.natAbs * l.r.natAbs + l.b.natAbs * h.r.natAbs ≤ f.natAbs + 2 * s.natAbs
  la : l.a.natAbs ≤ f.natAbs + 2 * s.natAbs + 1
  lb : l.b.natAbs ≤ f.natAbs + 2 * s.natAbs + 1
  sg : 0 ≤ l.r * h.r
  lt : h.r.natAbs < l.r.natAbs
  lr : l.r.natAbs ≤ f.natAbs + s.natAbs
theorem fmod_sg (x y : Int) (h : y ≠ 0) : 0 ≤ y * (x - x.fdiv y * y) ∧ (x - x.fdiv y * y).natAbs < y.natAbs := by
  have e : x - x.fdiv y * y = x.fmod y := by
    have := Int.mul_fdiv_add_fmod x y
    rw [Int.mul_comm] at this
    omega
  rw [e]
  rcases Int.lt_or_gt_of_ne h with h | h
  · have h1 : x.fmod y = -((-x).fmod (-y)) := by rw [Int.neg_fmod_neg]; omega
    have h2 := Int.fmod_nonneg_of_pos (-x) (show 0 < -y by omega)
    have h3 := Int.fmod_lt_of_pos (-x) (show 0 < -y by omega)
    refine ⟨?_, by omega⟩
    rw [h1]
    have := Int.mul_nonneg (show 0 ≤ -y by omega) h2
    grind
  · have h2 := Int.fmod_nonneg_of_pos x h
    have h3 := Int.fmod_lt_of_pos x h
    exact ⟨Int.mul_nonneg (by omega) h2, by omega⟩
theorem gcd_stp (x y t : Int) : Nat.gcd y.natAbs (x - t * y).natAbs = Nat.gcd x.natAbs y.natAbs := by
  rw [← Int.gcd_eq_natAbs_gcd_natAbs, ← Int.gcd_eq_natAbs_gcd_natAbs]
  rw [Int.gcd_comm x y, Int.gcd_sub_mul_right_right]
theorem abs_sub_mul (a t b : Int) : (a - t * b).natAbs ≤ a.natAbs + t.natAbs * b.natAbs := by
  rw [← Int.natAbs_mul]
  omega
theorem sgn_neg {x y : Int} (h : y < 0) (s : 0 ≤ x * y) : x ≤ 0 := by
  apply Classical.byContradiction
  intro z
  have := Int.mul_neg_of_pos_of_neg (show 0 < x by omega) h
  omega
theorem sgn_pos {x y : Int} (h : 0 < y) (s : 0 ≤ x * y) : 0 ≤ x := by
  apply Classical.byContradiction
  intro z
  have := Int.mul_neg_of_neg_of_pos (show x < 0 by omega) h
  omega
/-- same sign: the quotient's parts add up -/
theorem add_up {x y : Int} (h : y ≠ 0) (sg : 0 ≤ x * y) : (x.fdiv y).natAbs * y.natAbs + (x - x.fdiv y * y).natAbs = x.natAbs := by
  obtain ⟨h1, h2⟩ := fmod_sg x y h
  generalize x.fdiv y = t at h1 h2 ⊢
  rw [← Int.natAbs_mul]
  rcases Int.lt_or_gt_of_ne h with h | h
  · have hx : x ≤ 0 := sgn_neg h sg
    have hr : x - t * y ≤ 0 := sgn_neg h (by rw [Int.mul_comm]; exact h1)
    have ht : t * y ≤ 0 := by
      apply Classical.byContradiction; intro z
      have ht0 : t < 0 := by
        apply Classical.byContradiction; intro z2
        have := Int.mul_nonneg (show 0 ≤ t by omega) (show 0 ≤ -y by omega)
        rw [Int.mul_neg] at this
        omega
      have := Int.mul_le_mul_of_nonpos_right (show t ≤ -1 by omega) (show y ≤ 0 by omega)
      omega
    omega
  · have hx : 0 ≤ x := sgn_pos h sg
    have hr : 0 ≤ x - t * y := sgn_pos h (by rw [Int.mul_comm]; exact h1)
    have ht : 0 ≤ t * y := by
      apply Classical.byContradiction; intro z
      have ht0 : t < 0 := by
        apply Classical.byContradiction; intro z2
        have := Int.mul_nonneg (show 0 ≤ t by omega) (show 0 ≤ y by omega)
        omega
      have := Int.mul_le_mul_of_nonneg_right (show t ≤ -1 by omega) (show 0 ≤ y by omega)
      omega
    omega
theorem pot_step (A A0 T R R' L : Nat) (h : T * R + R' = L) : (A0 + T * A) * R + A * R' = A * L + A0 * R := by
  subst h
  grind
theorem In.step {f s : Int} {l h : Tr} (I : In f s l h) (nz : h.r ≠ 0) : In f s h (stp l h) ∧ 2 * (h.r.natAbs * (stp l h).r.natAbs) < l.r.natAbs * h.r.natAbs := by
  obtain ⟨h1, h2⟩ := fmod_sg l.r h.r nz
  have au := add_up nz I.sg
  unfold stp
  dsimp only
  generalize l.r.fdiv h.r = t at h1 h2 au ⊢
  have a1 := abs_sub_mul l.a t h.a
  have b1 := abs_sub_mul l.b t h.b
  have p1 := pot_step h.a.natAbs l.a.natAbs t.natAbs h.r.natAbs (l.r - t * h.r).natAbs l.r.natAbs au
  have p2 := pot_step h.b.natAbs l.b.natAbs t.natAbs h.r.natAbs (l.r - t * h.r).natAbs l.r.natAbs au
  have m1 := Nat.mul_le_mul_right h.r.natAbs a1
  have m2 := Nat.mul_le_mul_right h.r.natAbs b1
  have lpos : 1 ≤ l.r.natAbs := by have := I.lt; omega
  have q1 := Nat.mul_le_mul_left h.a.natAbs lpos
  have q2 := Nat.mul_le_mul_left h.b.natAbs lpos
  have fa := I.fa
  have fb := I.fb
  refine ⟨⟨I.eh, ?_, ?_, ?_, ?_, ?_, ?_, h1, h2, by have := I.lt; have := I.lr; omega⟩, ?_⟩
  · have e1 := I.el
    have e2 := I.eh
    dsimp only
    grind
  · rw [gcd_stp]; exact I.g
  · dsimp only; omega
  · dsimp only; omega
  · rw [Nat.mul_one] at q1
    have : 0 ≤ l.a.natAbs * h.r.natAbs := Nat.zero_le _
    omega
  · rw [Nat.mul_one] at q2
    have : 0 ≤ l.b.natAbs * h.r.natAbs := Nat.zero_le _
    omega
  · -- halving
    have tp : 1 ≤ t.natAbs := by
      have hl := I.lt
      apply Classical.byContradiction
      intro z
      have z : t.natAbs = 0 := by omega
      rw [z] at au
      omega
    have t1 := Nat.mul_le_mul_right h.r.natAbs tp
    have hl : 2 * (l.r - t * h.r).natAbs < l.r.natAbs := by omega
    have hp : 0 < h.r.natAbs := by omega
    have := Nat.mul_lt_mul_of_pos_right hl hp
    rw [Nat.mul_comm h.r.natAbs, ← Nat.mul_assoc]
    exact this
theorem In.first (f s : Int) (nz : s ≠ 0) : In f s ⟨0, 1, s⟩ (stp ⟨1, 0, f⟩ ⟨0, 1, s⟩) := by
  obtain ⟨h1, h2⟩ := fmod_sg f s nz
  unfold stp
  dsimp only
  have tb : (f.fdiv s).natAbs * s.natAbs ≤ f.natAbs + s.natAbs := by
    rw [← Int.natAbs_mul]
    omega
  generalize f.fdiv s = t at h1 h2 tb ⊢
  have tl : t.natAbs ≤ f.natAbs + s.natAbs := by
    have : 1 ≤ s.natAbs := by omega
    have := Nat.mul_le_mul_left t.natAbs this
    omega
  refine ⟨by dsimp only; omega, by dsimp only; grind, ?_, ?_, ?_, by dsimp only; omega, by dsimp only; omega, h1, h2, by dsimp only; omega⟩
  · rw [gcd_stp]
  · dsimp only; simp; omega
  · dsimp only
    have e1 : (0 - t * 1).natAbs = t.natAbs := by omega
    rw [e1]
    have : (1 : Int).natAbs = 1 := rfl
    rw [this, Nat.one_mul]
    omega
/-- at the end -/
theorem In.last {f s : Int} {l h : Tr} (I : In f s l h) (z : h.r = 0) : l.r.natAbs = Nat.gcd f.natAbs s.natAbs := by
  have := I.g
  rw [z] at this
  simpa using this
/-- at any time -/
def WI (f s : Int) (l h : Tr) : Prop := (l = ⟨1, 0, f⟩ ∧ h = ⟨0, 1, s⟩) ∨ In f s l h
theorem WI.step {f s : Int} {l h : Tr} (I : WI f s l h) (nz : h.r ≠ 0) : In f s h (stp l h) := by
  rcases I with ⟨rfl, rfl⟩ | I
  · exact In.first f s nz
  · exact (I.step nz).1
theorem In.ha {f s : Int} {l h : Tr} (I : In f s l h) : h.a.natAbs ≤ f.natAbs + 2 * s.natAbs ∧ h.b.natAbs ≤ f.natAbs + 2 * s.natAbs := by
  have lpos : 1 ≤ l.r.natAbs := by have := I.lt; omega
  have q1 := Nat.mul_le_mul_left h.a.natAbs lpos
  have q2 := Nat.mul_le_mul_left h.b.natAbs lpos
  have fa := I.fa
  have fb := I.fb
  rw [Nat.mul_one] at q1 q2
  omega
theorem WI.bd {f s : Int} {l h : Tr} (I : WI f s l h) : l.a.natAbs ≤ f.natAbs + 2 * s.natAbs + 1 ∧ l.b.natAbs ≤ f.natAbs + 2 * s.natAbs + 1 ∧ l.r.natAbs ≤ f.natAbs + s.natAbs ∧ h.a.natAbs ≤ f.natAbs + 2 * s.natAbs + 1 ∧ h.b.natAbs ≤ f.natAbs + 2 * s.natAbs + 1 ∧ h.r.natAbs ≤ f.natAbs + s.natAbs := by
  rcases I with ⟨rfl, rfl⟩ | I
  · dsimp only
    refine ⟨?_, ?_, ?_, ?_, ?_, ?_⟩ <;> omega
  · obtain ⟨h1, h2⟩ := I.ha
    have := I.la
    have := I.lb
    have := I.lr
    have := I.lt
    refine ⟨?_, ?_, ?_, ?_, ?_, ?_⟩ <;> omega
theorem WI.out {f s : Int} {l h : Tr} (I : WI f s l h) (z : h.r = 0) : (l.r < 0 → -l.a * f + -l.b * s = (Nat.gcd f.natAbs s.natAbs : Int)) ∧ (¬ l.r < 0 → l.a * f + l.b * s = (Nat.gcd f.natAbs s.natAbs : Int)) := by
  rcases I with ⟨rfl, rfl⟩ | I
  · dsimp only at z ⊢
    subst z
    simp
    omega
  · have e := I.el
    have g := I.last z
    constructor
    · intro n
      have : -l.a * f + -l.b * s = -(l.a * f + l.b * s) := by grind
      omega
    · intro n
      omega
/-- a loop of so many rounds -/
def MI (i : Nat) (f s : Int) (l h : Tr) : Prop := (i = 0 ∧ l = ⟨1, 0, f⟩ ∧ h = ⟨0, 1, s⟩) ∨ (0 < i ∧ In f s l h ∧ 2 ^ (i - 1) * (l.r.natAbs * h.r.natAbs) < 2 ^ 2003)
theorem MI.wi {i : Nat} {f s : Int} {l h : Tr} (I : MI i f s l h) : WI f s l h := by
  rcases I with ⟨_, e⟩ | ⟨_, I, _⟩
  · exact .inl e
  · exact .inr I
theorem MI.step {i : Nat} {f s : Int} {l h : Tr} (I : MI i f s l h) (hs : s.natAbs < 2 ^ 1000) (nz : h.r ≠ 0) : MI (i + 1) f s h (stp l h) := by
  refine .inr ⟨Nat.succ_pos _, I.wi.step nz, ?_⟩
  rw [Nat.add_sub_cancel]
  rcases I with ⟨rfl, rfl, rfl⟩ | ⟨hi, I, hp⟩
  · have h2 := (In.first f s nz).lt
    dsimp only at h2 ⊢
    rw [Nat.pow_zero, Nat.one_mul]
    have := Nat.mul_lt_mul_of_lt_of_lt hs (Nat.lt_trans h2 hs)
    have e : (2 : Nat) ^ 1000 * 2 ^ 1000 < 2 ^ 2003 := by rw [← Nat.pow_add]; exact Nat.pow_lt_pow_right (by decide) (by decide)
    exact Nat.lt_trans this e
  · have h2 := (I.step nz).2
    obtain ⟨j, rfl⟩ : ∃ j, i = j + 1 := ⟨i - 1, by omega⟩
    rw [Nat.add_sub_cancel] at hp
    have h3 := Nat.mul_le_mul_left (2 ^ j) (Nat.le_of_lt h2)
    rw [Nat.pow_succ, Nat.mul_assoc]
    exact Nat.lt_of_le_of_lt h3 hp
theorem MI.out {f s : Int} {l h : Tr} (I : MI 3000 f s l h) : h.r = 0 := by
  rcases I with ⟨z, _⟩ | ⟨_, I, hp⟩
  · omega
  · apply Classical.byContradiction
    intro z
    have h1 : 1 ≤ l.r.natAbs * h.r.natAbs := Nat.mul_pos (by have := I.lt; omega) (by omega)
    have h2 := Nat.mul_le_mul_left (2 ^ (3000 - 1)) h1
    rw [Nat.mul_one] at h2
    have e : (2 : Nat) ^ 2003 < 2 ^ (3000 - 1) := Nat.pow_lt_pow_right (by decide) (by decide)
    omega
/-- the same for the divisor alone -/
def GI (i : Nat) (x y : Nat) : Prop := x < 2 ^ 1000 ∧ y < 2 ^ 1000 ∧ (i = 0 ∨ (0 < i ∧ y < x ∧ 2 ^ (i - 1) * (x * y) < 2 ^ 2003))
theorem GI.step {i x y : Nat} (I : GI i x y) (nz : y ≠ 0) : GI (i + 1) y (x % y) := by
  obtain ⟨hx, hy, hp⟩ := I
  have hm : x % y < y := Nat.mod_lt _ (by omega)
  refine ⟨hy, by omega, .inr ⟨Nat.succ_pos _, hm, ?_⟩⟩
  rw [Nat.add_sub_cancel]
  rcases hp with rfl | ⟨hi, hl, hp⟩
  · rw [Nat.pow_zero, Nat.one_mul]
    have := Nat.mul_lt_mul_of_lt_of_lt hy (Nat.lt_trans hm hy)
    have e : (2 : Nat) ^ 1000 * 2 ^ 1000 < 2 ^ 2003 := by rw [← Nat.pow_add]; exact Nat.pow_lt_pow_right (by decide) (by decide)
    exact Nat.lt_trans this e
  · obtain ⟨j, rfl⟩ : ∃ j, i = j + 1 := ⟨i - 1, by omega⟩
    rw [Nat.add_sub_cancel] at hp
    have h2 : 2 * (x % y) ≤ x := by
      have e := Nat.div_add_mod x y
      have q : 1 ≤ x / y := Nat.div_pos (by omega) (by omega)
      have := Nat.mul_le_mul_left y q
      omega
    have h3 : 2 * (y * (x % y)) ≤ x * y := by
      have := Nat.mul_le_mul_left y h2
      rw [Nat.mul_comm x y]
      have e : y * (2 * (x % y)) = 2 * (y * (x % y)) := by grind
      omega
    have h4 := Nat.mul_le_mul_left (2 ^ j) h3
    rw [Nat.pow_succ, Nat.mul_assoc]
    exact Nat.lt_of_le_of_lt h4 hp
theorem GI.out {x y : Nat} (I : GI 3000 x y) : y = 0 := by
  obtain ⟨_, _, z | ⟨_, hl, hp⟩⟩ := I
  · omega
  · apply Classical.byContradiction
    intro z
    have h1 : 1 ≤ x * y := Nat.mul_pos (by omega) (by omega)
    have h2 := Nat.mul_le_mul_left (2 ^ (3000 - 1)) h1
    rw [Nat.mul_one] at h2
    have e : (2 : Nat) ^ 2003 < 2 ^ (3000 - 1) := Nat.pow_lt_pow_right (by decide) (by decide)
    omega
end Bz

set_option linter.all false
set_option maxHeartbeats 4000000
namespace Tbl
def cj (h p : P3) : P3 := mu (mu h p) (iv h)
theorem cj_eq (h p : P3) : cj h p = (p.1, p.2.1, p.2.2 + (h.1 * p.2.1 - p.1 * h.2.1)) := p3_ext (by simp only [cj, mu, iv]; omega) (by simp only [cj, mu, iv]; omega) (by simp only [cj, mu, iv]; grind)
theorem cj_cj (g h p : P3) : cj g (cj h p) = cj (mu g h) p := by unfold cj; rw [iv_mul]; simp only [mu_assoc]
theorem cj_e0 (p : P3) : cj e0 p = p := by unfold cj; rw [e0_mu, iv_e0, mu_e0]
theorem cj_back' (h p : P3) : cj h (cj (iv h) p) = p := by rw [cj_cj, mu_iv, cj_e0]
theorem cj_zz (h : P3) (a : Int) : cj h (zz a) = zz a := by rw [cj_eq]; exact p3_ext rfl rfl (by simp)
theorem endok_ex {L : List P3} {c : Int} (hL : Led L c) (p : P3) : EndOk L p ↔ ∃ a, InT L c (p.1, p.2.1, a) := by
  constructor
  · intro h
    refine ⟨(lpF L (epL L p)).2.2, ?_⟩
    have e := lp_end hL h
    rw [mu_zz] at e
    have h1 : p.1 = (lpF L (epL L p)).1 := congrArg (·.1) e
    have h2 : p.2.1 = (lpF L (epL L p)).2.1 := congrArg (·.2.1) e
    have := lp_int hL p
    rw [h1, h2]
    exact this
  · rintro ⟨a, h⟩
    have := int_endok hL h
    match L, this with
    | [], this => exact this
    | [r], this => exact this
    | r :: s :: _, this => exact this
def zr (r : P3) : P3 := (r.1, r.2.1, 0)
theorem end_zr (L : List P3) (p : P3) : EndOk (L.map zr) p ↔ EndOk L p := by
  match L with
  | [] => exact Iff.rfl
  | [r] => exact Iff.rfl
  | r :: s :: _ => exact Iff.rfl
theorem led_zr {L : List P3} {c : Int} (hL : Led L c) : Led (L.map zr) 1 := by
  refine ⟨by decide, fun _ r hr => ?_, ?_⟩
  · obtain ⟨t, _, rfl⟩ := List.mem_map.mp hr
    exact ⟨Int.le_refl _, by show (0 : Int) < 1; decide⟩
  · rcases hL.2.2 with rfl | ⟨r, rfl, hr⟩ | ⟨r, s, rfl, sx, rp, sp, q0, q1, _⟩
    · exact .inl rfl
    · exact .inr (.inl ⟨zr r, rfl, hr⟩)
    · exact .inr (.inr ⟨zr r, zr s, rfl, sx, rp, sp, q0, q1, by decide, Int.one_dvd _⟩)
theorem int_zr {L : List P3} {c : Int} (hL : Led L c) (p : P3) : InT (L.map zr) 1 p ↔ EndOk L p := by
  rw [int_iff (led_zr hL), end_zr]
  exact ⟨fun h => h.1, fun h => ⟨h, Int.one_dvd _⟩⟩
theorem ends_eq {L L' : List P3} {c c' : Int} (hL : Led L c) (hL' : Led L' c') (h : ∀ p, EndOk L p ↔ EndOk L' p) : L.map zr = L'.map zr := (led_uniq (led_zr hL) (led_zr hL') fun p => by rw [int_zr hL, int_zr hL', h]).1
/-- what is told of a table seen from a place -/
structure Mov (h : P3) (L : List P3) (c : Int) (L' : List P3) (c' : Int) : Prop where
  led : Led L c
  led' : Led L' c'
  iff : ∀ p, InT L' c' p ↔ InT L c (cj (iv h) p)
theorem Mov.home {h : P3} {L L' : List P3} {c c' : Int} (m : Mov h L c L' c') : c' = c := by
  have key : ∀ a, c' ∣ a ↔ c ∣ a := fun a => by rw [← int_zz m.led', ← int_zz m.led, m.iff, cj_zz]
  exact dvd_eq m.led'.1 m.led.1 ((key c).mpr (Int.dvd_refl _)) ((key c').mp (Int.dvd_refl _))
theorem Mov.ends {h : P3} {L L' : List P3} {c c' : Int} (m : Mov h L c L' c') : L'.map zr = L.map zr := ends_eq m.led' m.led fun p => by
  rw [endok_ex m.led', endok_ex m.led]
  constructor
  · rintro ⟨a, ha⟩
    have := (m.iff _).mp ha
    rw [cj_eq] at this
    exact ⟨_, this⟩
  · rintro ⟨a, ha⟩
    refine ⟨_, (m.iff (p.1, p.2.1, a + (h.1 * p.2.1 - p.1 * h.2.1))).mpr ?_⟩
    rw [cj_eq]
    have e : a + (h.1 * p.2.1 - p.1 * h.2.1) + ((iv h).1 * p.2.1 - p.1 * (iv h).2.1) = a := by
      show a + (h.1 * p.2.1 - p.1 * h.2.1) + (-h.1 * p.2.1 - p.1 * -h.2.1) = a
      grind
    show InT L c (p.1, p.2.1, a + (h.1 * p.2.1 - p.1 * h.2.1) + ((iv h).1 * p.2.1 - p.1 * (iv h).2.1))
    rw [e]
    exact ha
theorem zr_get {L L' : List P3} (h : L'.map zr = L.map zr) {r' : P3} (hr : r' ∈ L') : ∃ r ∈ L, r.1 = r'.1 ∧ r.2.1 = r'.2.1 := by
  have : zr r' ∈ L.map zr := by rw [← h]; exact List.mem_map_of_mem hr
  obtain ⟨r, hr, e⟩ := List.mem_map.mp this
  exact ⟨r, hr, congrArg (·.1) e, congrArg (·.2.1) e⟩
/-- the rows' areas -/
theorem Mov.area {h : P3} {L L' : List P3} {c c' : Int} (m : Mov h L c L' c') {r' : P3} (hr : r' ∈ L') : (0 < c ∧ 0 ≤ r'.2.2 ∧ r'.2.2 < c) ∨ ∃ r ∈ L, r' = cj h r := by
  have ec := m.home
  have hends := m.ends
  have hmem := (m.iff _).mp (int_row m.led' hr)
  rcases Int.lt_or_eq_of_le m.led.1 with c0 | c0
  · left
    have := m.led'.2.1 (by omega) r' hr
    exact ⟨c0, this.1, by omega⟩
  · right
    rcases m.led.2.2 with rfl | ⟨r, rfl, hp⟩ | ⟨r, s, rfl, sx, rp, sp, q0, q1, cp, _⟩
    · obtain ⟨t, ht, _⟩ := zr_get hends hr
      cases ht
    · obtain ⟨t, ht, e1, e2⟩ := zr_get hends hr
      rw [List.mem_singleton.mp ht] at e1 e2
      obtain ⟨n, k, f⟩ := hmem
      rw [← c0, Int.mul_zero, show zz 0 = e0 from rfl, mu_e0] at f
      have f1 : r'.1 = n * r.1 := by
        have := congrArg (·.1) f
        rw [cj_eq] at this
        exact this
      have f2 : r'.2.1 = n * r.2.1 := by
        have := congrArg (·.2.1) f
        rw [cj_eq] at this
        exact this
      have n1 : n = 1 := by
        rcases hp with hp | ⟨_, hp⟩
        · have : (n - 1) * r.1 = 0 := by rw [Int.sub_mul]; omega
          rcases Int.mul_eq_zero.mp this with h | h <;> omega
        · have : (n - 1) * r.2.1 = 0 := by rw [Int.sub_mul]; omega
          rcases Int.mul_eq_zero.mp this with h | h <;> omega
      rw [n1, pw_1] at f
      exact ⟨r, List.mem_singleton_self r, by rw [← f, cj_back']⟩
    · omega
end Tbl

set_option linter.all false
set_option maxHeartbeats 4000000
namespace Tbl
/-- how great the rows are, i rounds on -/
def Ag (X U : Int) (i : Nat) (p : P3) : Prop := ab p.1 ≤ 4 ^ i * X ∧ ab p.2.1 ≤ 4 ^ i * X ∧ ab (uu p) ≤ 16 ^ i * (U + X * X)
theorem Ag.mono {X U : Int} (X0 : 0 ≤ X) (U0 : 0 ≤ U) {i j : Nat} {p : P3} (h : Ag X U i p) (hij : i ≤ j) : Ag X U j p := by
  have h4 : (4 : Int) ^ i ≤ 4 ^ j := by exact_mod_cast Nat.pow_le_pow_right (by decide : 0 < 4) hij
  have h16 : (16 : Int) ^ i ≤ 16 ^ j := by exact_mod_cast Nat.pow_le_pow_right (by decide : 0 < 16) hij
  have m1 := Int.mul_le_mul_of_nonneg_right h4 X0
  have xx := Int.mul_nonneg X0 X0
  have m2 := Int.mul_le_mul_of_nonneg_right h16 (show 0 ≤ U + X * X by omega)
  exact ⟨Int.le_trans h.1 m1, Int.le_trans h.2.1 m1, Int.le_trans h.2.2 m2⟩
theorem Ag.iv {X U : Int} {i : Nat} {p : P3} (h : Ag X U i p) : Ag X U i (iv p) := ⟨by show ab (-p.1) ≤ _; rw [ab_neg]; exact h.1, by show ab (-p.2.1) ≤ _; rw [ab_neg]; exact h.2.1, by rw [uu_iv, ab_neg]; exact h.2.2⟩
/-- tables told by what makes the same are one -/
theorem tab_one {S S' L L' : List P3} {c c' : Int} (hL : Led L c) (hL' : Led L' c') (h : GE S (L ++ [zz c])) (h' : GE S' (L' ++ [zz c'])) (hs : GE S S') : L' = L ∧ c' = c := led_uniq hL' hL fun p => by rw [int_gen hL', int_gen hL, ← h' p, ← h p, hs p]
end Tbl

set_option linter.all false
set_option maxHeartbeats 4000000
namespace Tbl
theorem nodup_le {α : Type} [DecidableEq α] : ∀ {l m : List α}, l.Nodup → (∀ x ∈ l, x ∈ m) → l.length ≤ m.length
  | [], _, _, _ => Nat.zero_le _
  | a :: l, m, h, hs => by
    obtain ⟨h1, h2⟩ := List.nodup_cons.mp h
    have ha := hs a (List.mem_cons_self ..)
    have := nodup_le (l := l) (m := m.erase a) h2 fun x hx => (List.mem_erase_of_ne fun e => h1 (by rw [← e]; exact hx)).mpr (hs x (List.mem_cons_of_mem _ hx))
    rw [List.length_erase_of_mem ha] at this
    have h3 : 0 < m.length := List.length_pos_of_mem ha
    show l.length + 1 ≤ _
    omega
theorem nodup_sub {α : Type} [DecidableEq α] {l m : List α} (h : l.Nodup) (hs : ∀ x ∈ l, x ∈ m) (hl : m.length ≤ l.length) : ∀ x ∈ m, x ∈ l := fun x hx => by
  apply Classical.byContradiction
  intro hn
  have := nodup_le (m := m.erase x) h fun y hy => (List.mem_erase_of_ne fun e => hn (by rw [← e]; exact hy)).mpr (hs y hy)
  rw [List.length_erase_of_mem hx] at this
  have h3 : 0 < m.length := List.length_pos_of_mem hx
  omega
theorem nodup_map {α β : Type} {f : α → β} : ∀ {l : List α}, l.Nodup → (∀ x ∈ l, ∀ y ∈ l, f x = f y → x = y) → (l.map f).Nodup
  | [], _, _ => List.nodup_nil
  | a :: l, h, hf => by
    obtain ⟨h1, h2⟩ := List.nodup_cons.mp h
    refine List.nodup_cons.mpr ⟨fun hm => ?_, nodup_map h2 fun x hx y hy => hf x (List.mem_cons_of_mem _ hx) y (List.mem_cons_of_mem _ hy)⟩
    obtain ⟨x, hx, e⟩ := List.mem_map.mp hm
    have := hf x (List.mem_cons_of_mem _ hx) a (List.mem_cons_self ..) e
    rw [this] at hx
    exact h1 hx
theorem inj_le {m k : Nat} (f : Nat → Nat) (h1 : ∀ i, i < m → f i < k) (h2 : ∀ i j, i < m → j < m → f i = f j → i = j) : m ≤ k := by
  have h := nodup_le (l := (List.range m).map f) (m := List.range k) (nodup_map List.nodup_range fun x hx y hy => h2 x y (List.mem_range.mp hx) (List.mem_range.mp hy)) fun x hx => by
    obtain ⟨i, hi, rfl⟩ := List.mem_map.mp hx
    exact List.mem_range.mpr (h1 i (List.mem_range.mp hi))
  rw [List.length_map, List.length_range, List.length_range] at h
  exact h
def rg (n : Int) (p : P3) : P3 := (p.1 % n, p.2.1 % n, p.2.2 % n)
def InR (n : Int) (p : P3) : Prop := (0 ≤ p.1 ∧ p.1 < n) ∧ (0 ≤ p.2.1 ∧ p.2.1 < n) ∧ 0 ≤ p.2.2 ∧ p.2.2 < n
theorem rg_in {n : Int} (h : 0 < n) (p : P3) : InR n (rg n p) := ⟨⟨Int.emod_nonneg _ (by omega), Int.emod_lt_of_pos _ h⟩, ⟨Int.emod_nonneg _ (by omega), Int.emod_lt_of_pos _ h⟩, Int.emod_nonneg _ (by omega), Int.emod_lt_of_pos _ h⟩
theorem rg_id {n : Int} {p : P3} (h : InR n p) : rg n p = p := p3_ext (Int.emod_eq_of_lt h.1.1 h.1.2) (Int.emod_eq_of_lt h.2.1.1 h.2.1.2) (Int.emod_eq_of_lt h.2.2.1 h.2.2.2)
theorem em_iff {n a b : Int} : a % n = b % n ↔ n ∣ a - b := by
  rw [Int.emod_eq_emod_iff_emod_sub_eq_zero]
  exact ⟨Int.dvd_of_emod_eq_zero, Int.emod_eq_zero_of_dvd⟩
theorem rg_iff {n : Int} {p q : P3} : rg n p = rg n q ↔ n ∣ p.1 - q.1 ∧ n ∣ p.2.1 - q.2.1 ∧ n ∣ p.2.2 - q.2.2 := by
  rw [← em_iff, ← em_iff, ← em_iff]
  exact ⟨fun h => ⟨congrArg (·.1) h, congrArg (·.2.1) h, congrArg (·.2.2) h⟩, fun ⟨h1, h2, h3⟩ => p3_ext h1 h2 h3⟩
theorem rg_rg (n : Int) (p : P3) : rg n (rg n p) = rg n p := p3_ext (Int.emod_emod ..) (Int.emod_emod ..) (Int.emod_emod ..)
/-- products in the ring -/
theorem rg_mul {n : Int} {p p' q q' : P3} (h : rg n p = rg n p') (k : rg n q = rg n q') : rg n (mu p q) = rg n (mu p' q') := by
  obtain ⟨⟨a, ha⟩, ⟨b, hb⟩, c, hc⟩ := rg_iff.mp h
  obtain ⟨⟨a', ha'⟩, ⟨b', hb'⟩, c', hc'⟩ := rg_iff.mp k
  refine rg_iff.mpr ⟨⟨a + a', ?_⟩, ⟨b + b', ?_⟩, c + c' + a * q.2.1 + p'.1 * b', ?_⟩
  · show p.1 + q.1 - (p'.1 + q'.1) = _; rw [Int.mul_add]; omega
  · show p.2.1 + q.2.1 - (p'.2.1 + q'.2.1) = _; rw [Int.mul_add]; omega
  · show p.2.2 + q.2.2 + p.1 * q.2.1 - (p'.2.2 + q'.2.2 + p'.1 * q'.2.1) = _
    have e1 : p.1 = p'.1 + n * a := by omega
    have e2 : q.2.1 = q'.2.1 + n * b' := by omega
    have e3 : p.2.2 = p'.2.2 + n * c := by omega
    have e4 : q.2.2 = q'.2.2 + n * c' := by omega
    rw [e1, e3, e4, e2]
    grind
theorem rg_mr (n : Int) (p q : P3) : rg n (mu (rg n p) q) = rg n (mu p q) := rg_mul (rg_rg n p) rfl
theorem rg_can {n : Int} {p q r : P3} (h : rg n (mu p r) = rg n (mu q r)) : rg n p = rg n q := by
  have h1 := rg_mul h (rfl : rg n (iv r) = rg n (iv r))
  rw [mu_assoc, mu_iv, mu_e0, mu_assoc, mu_iv, mu_e0] at h1
  exact h1
/-- the walks of the ring -/
def rgW (n : Int) : List P3 := [(n, 0, 0), (0, n, 0), (0, 0, n)]
theorem rgW_gen {n : Int} {d : P3} (h : rg n d = rg n e0) : Gen (rgW n) d := by
  obtain ⟨⟨a, ha⟩, ⟨b, hb⟩, c, hc⟩ := rg_iff.mp h
  have ha : d.1 - 0 = n * a := ha
  have hb : d.2.1 - 0 = n * b := hb
  have hc : d.2.2 - 0 = n * c := hc
  have hG := gen_sb (rgW n)
  have e : d = mu (mu (pw (n, 0, 0) a) (pw (0, n, 0) b)) (pw (0, 0, n) (c - a * (b * n))) := by
    refine p3_ext ?_ ?_ ?_
    · show d.1 = a * n + b * 0 + _ * 0
      rw [Int.mul_zero, Int.mul_zero, Int.mul_comm a]; omega
    · show d.2.1 = a * 0 + b * n + _ * 0
      rw [Int.mul_zero, Int.mul_zero, Int.mul_comm b]; omega
    · show d.2.2 = (a * 0 + n * 0 * tr a) + (b * 0 + 0 * n * tr b) + a * n * (b * n) + ((c - a * (b * n)) * n + 0 * 0 * tr _) + (a * n + b * 0) * ((c - a * (b * n)) * 0)
      simp only [Int.mul_zero, Int.zero_mul, Int.add_zero, Int.zero_add]
      have : n * c = d.2.2 := by omega
      rw [← this]
      grind
  rw [e]
  exact hG.mul _ _ (hG.mul _ _ (hG.pw (gen_mem (by simp [rgW])) _) (hG.pw (gen_mem (by simp [rgW])) _)) (hG.pw (gen_mem (by simp [rgW])) _)
theorem rgW_mul {n : Int} {g r : P3} (h : r ∈ rgW n) : rg n (mu g r) = rg n g := by
  simp only [rgW, List.mem_cons, List.not_mem_nil, or_false] at h
  rcases h with rfl | rfl | rfl
  · refine rg_iff.mpr ⟨⟨1, ?_⟩, ⟨0, ?_⟩, 0, ?_⟩
    · show g.1 + n - g.1 = _; omega
    · show g.2.1 + 0 - g.2.1 = _; omega
    · show g.2.2 + 0 + g.1 * 0 - g.2.2 = _; omega
  · refine rg_iff.mpr ⟨⟨0, ?_⟩, ⟨1, ?_⟩, g.1, ?_⟩
    · show g.1 + 0 - g.1 = _; omega
    · show g.2.1 + n - g.2.1 = _; omega
    · show g.2.2 + 0 + g.1 * n - g.2.2 = _; rw [Int.mul_comm n]; omega
  · refine rg_iff.mpr ⟨⟨0, ?_⟩, ⟨0, ?_⟩, 1, ?_⟩
    · show g.1 + 0 - g.1 = _; omega
    · show g.2.1 + 0 - g.2.1 = _; omega
    · show g.2.2 + n + g.1 * 0 - g.2.2 = _; omega
/-- what is tried in the ring -/
structure Tried (n : Int) (told F : List P3) : Prop where
  nd : F.Nodup
  inr : ∀ f ∈ F, InR n f
  one : e0 ∈ F
  step : ∀ f ∈ F, ∀ t ∈ told, rg n (mu f t) ∈ F
  by_ : ∀ f ∈ F, ∃ q, Gen told q ∧ rg n q = f
theorem tried_iff {n : Int} {told F : List P3} (n0 : 0 < n) (h : Tried n told F) (p : P3) : Gen (told ++ rgW n) p ↔ rg n p ∈ F := by
  constructor
  · intro hp
    have hU : Sb fun p => ∀ g : P3, rg n g ∈ F ↔ rg n (mu g p) ∈ F := by
      refine ⟨fun g => by rw [mu_e0], fun p q hp hq g => ?_, fun p hp g => ?_⟩
      · rw [hp g, hq (mu g p), mu_assoc]
      · have := hp (mu g (iv p))
        rw [mu_assoc, iv_mu, mu_e0] at this
        exact this.symm
    have := hp _ hU (fun s hs => ?_) e0
    · rw [e0_mu] at this
      refine this.mp ?_
      rw [rg_id (h.inr e0 h.one)]
      exact h.one
    · intro g
      rcases List.mem_append.mp hs with hs | hs
      · constructor
        · intro hg
          have := h.step _ hg s hs
          rwa [rg_mr] at this
        · intro hg
          have nd := nodup_map (f := fun f => rg n (mu f s)) h.nd fun x hx y hy e => by
            have := rg_can e
            rwa [rg_id (h.inr x hx), rg_id (h.inr y hy)] at this
          obtain ⟨f, hf, e⟩ := List.mem_map.mp (nodup_sub nd (fun x hx => by
            obtain ⟨f, hf, rfl⟩ := List.mem_map.mp hx
            exact h.step f hf s hs) (by rw [List.length_map]; exact Nat.le_refl _) _ hg)
          have := rg_can e
          rw [rg_id (h.inr f hf)] at this
          rw [← this]
          exact hf
      · rw [rgW_mul hs]
  · intro hp
    obtain ⟨q, hq, e⟩ := h.by_ _ hp
    have hd : rg n (mu (iv q) p) = rg n e0 := by
      rw [← iv_mu q]
      exact rg_mul rfl e.symm
    have hG := gen_sb (told ++ rgW n)
    have e2 : p = mu q (mu (iv q) p) := by rw [← mu_assoc, mu_iv, e0_mu]
    rw [e2]
    exact hG.mul _ _ (gen_le (fun s hs => gen_mem (List.mem_append_left _ hs)) hq) (gen_le (fun s hs => gen_mem (List.mem_append_right _ hs)) (rgW_gen hd))
end Tbl

set_option linter.all false
set_option maxHeartbeats 4000000
namespace Tbl
def ringAt (n k : Nat) : P3 := ((k / (n * n) : Nat), (k / n % n : Nat), (k % n : Nat))
def ringIx (n : Nat) (p : P3) : Nat := (p.1.toNat * n + p.2.1.toNat) * n + p.2.2.toNat
def boxAt (S c k : Nat) : P3 := ((k / (S * c) : Nat), (k / c % S : Nat), (k % c : Nat))
def boxIx (S c : Nat) (p : P3) : Nat := (p.1.toNat * S + p.2.1.toNat) * c + p.2.2.toNat
theorem box_at {P S c k : Nat} (h : k < P * S * c) : (boxAt S c k).1.toNat < P ∧ (boxAt S c k).2.1.toNat < S ∧ (boxAt S c k).2.2.toNat < c ∧ 0 ≤ (boxAt S c k).1 ∧ 0 ≤ (boxAt S c k).2.1 ∧ 0 ≤ (boxAt S c k).2.2 ∧ boxIx S c (boxAt S c k) = k := by
  have c0 : 0 < c := Nat.pos_of_ne_zero fun z => by rw [z, Nat.mul_zero] at h; omega
  have S0 : 0 < S := Nat.pos_of_ne_zero fun z => by rw [z, Nat.mul_zero, Nat.zero_mul] at h; omega
  unfold boxAt boxIx
  simp only [Int.toNat_natCast]
  refine ⟨Nat.div_lt_of_lt_mul (by rw [Nat.mul_comm, ← Nat.mul_assoc]; exact h), Nat.mod_lt _ S0, Nat.mod_lt _ c0, Int.natCast_nonneg _, Int.natCast_nonneg _, Int.natCast_nonneg _, ?_⟩
  have e1 : k / (S * c) = k / c / S := by rw [Nat.mul_comm, Nat.div_div_eq_div_mul]
  rw [e1, Nat.mul_comm (k / c / S), Nat.div_add_mod, Nat.mul_comm, Nat.div_add_mod]
theorem ix_inj {P S c a1 a2 a3 b1 b2 b3 : Nat} (h1 : a2 < S) (h2 : b2 < S) (h3 : a3 < c) (h4 : b3 < c) (h : (a1 * S + a2) * c + a3 = (b1 * S + b2) * c + b3) : a1 = b1 ∧ a2 = b2 ∧ a3 = b3 := by
  have c0 : 0 < c := by omega
  have S0 : 0 < S := by omega
  have md : ∀ {x y z : Nat}, z < y → (x * y + z) % y = z := fun {x y z} hz => by rw [Nat.mul_comm x y, Nat.mul_add_mod, Nat.mod_eq_of_lt hz]
  have e3 : a3 = b3 := by rw [← md (x := a1 * S + a2) h3, h, md h4]
  subst e3
  have e : a1 * S + a2 = b1 * S + b2 := Nat.eq_of_mul_eq_mul_right c0 (by omega)
  have e2 : a2 = b2 := by rw [← md (x := a1) h1, e, md h2]
  subst e2
  exact ⟨Nat.eq_of_mul_eq_mul_right S0 (by omega), rfl, rfl⟩
theorem ix_lt {P S c a1 a2 a3 : Nat} (h0 : a1 < P) (h1 : a2 < S) (h3 : a3 < c) : (a1 * S + a2) * c + a3 < P * S * c := by
  have h4 : a1 * S + a2 < P * S := by
    have := Nat.mul_le_mul_right S (show a1 + 1 ≤ P from h0)
    rw [Nat.add_mul] at this
    omega
  have := Nat.mul_le_mul_right c (show a1 * S + a2 + 1 ≤ P * S from h4)
  rw [Nat.add_mul] at this
  omega
theorem box_inj {P S c : Nat} {p q : P3} (hp : (0 ≤ p.1 ∧ p.1.toNat < P) ∧ (0 ≤ p.2.1 ∧ p.2.1.toNat < S) ∧ 0 ≤ p.2.2 ∧ p.2.2.toNat < c) (hq : (0 ≤ q.1 ∧ q.1.toNat < P) ∧ (0 ≤ q.2.1 ∧ q.2.1.toNat < S) ∧ 0 ≤ q.2.2 ∧ q.2.2.toNat < c) (h : boxIx S c p = boxIx S c q) : p = q := by
  obtain ⟨e1, e2, e3⟩ := ix_inj (P := P) hp.2.1.2 hq.2.1.2 hp.2.2.2 hq.2.2.2 h
  exact p3_ext (by omega) (by omega) (by omega)
theorem ring_at {n k : Nat} (h : k < n * n * n) : InR n (ringAt n k) ∧ ringIx n (ringAt n k) = k := by
  obtain ⟨h1, h2, h3, h4, h5, h6, h7⟩ := box_at (P := n) (S := n) (c := n) h
  exact ⟨⟨⟨h4, by show (boxAt n n k).1 < n; omega⟩, ⟨h5, by show (boxAt n n k).2.1 < n; omega⟩, h6, by show (boxAt n n k).2.2 < n; omega⟩, h7⟩
theorem ring_ix {n : Nat} {p : P3} (h : InR n p) : ringIx n p < n * n * n ∧ ringAt n (ringIx n p) = p := by
  have h1 : ringIx n p < n * n * n := ix_lt (by have := h.1; omega) (by have := h.2.1; omega) (by have := h.2.2; omega)
  refine ⟨h1, ?_⟩
  obtain ⟨h2, h3⟩ := ring_at h1
  have i1 := h.1; have i2 := h.2.1; have i3 := h.2.2
  have j1 := h2.1; have j2 := h2.2.1; have j3 := h2.2.2
  exact box_inj (P := n) (S := n) (c := n) ⟨⟨j1.1, by omega⟩, ⟨j2.1, by omega⟩, j3.1, by omega⟩ ⟨⟨i1.1, by omega⟩, ⟨i2.1, by omega⟩, i3.1, by omega⟩ h3
/-- a table in the ring -/
structure RT (n : Nat) (L : List P3) (c : Int) (F : List P3) : Prop where
  n0 : 0 < n
  led : Led L c
  nd : F.Nodup
  inr : ∀ f ∈ F, InR n f
  iff : ∀ p, InT L c p ↔ rg n p ∈ F
theorem RT.mem {n : Nat} {L F : List P3} {c : Int} (h : RT n L c F) {f : P3} (hf : f ∈ F) : InT L c f := by
  rw [h.iff, rg_id (h.inr f hf)]; exact hf
theorem RT.same {n : Nat} {L F : List P3} {c : Int} (h : RT n L c F) {p q : P3} (e : rg n p = rg n q) : InT L c (mu p (iv q)) := by
  rw [h.iff]
  have : rg n (mu p (iv q)) = rg n e0 := by rw [← mu_iv q]; exact rg_mul e rfl
  rw [this, ← h.iff]
  exact int_one L c
theorem RT.two {n : Nat} {L F : List P3} {c : Int} (h : RT n L c F) : ∃ (r s : P3) (P S C : Nat), L = [r, s] ∧ r.1 = P ∧ s.1 = 0 ∧ s.2.1 = S ∧ c = C ∧ 0 < P ∧ 0 < S ∧ 0 < C := by
  have n1 : (0 : Int) < n := by have := h.n0; omega
  have hx : InT L c ((n : Int), 0, 0) := by
    rw [h.iff, show rg n ((n : Int), 0, 0) = rg n e0 from rg_iff.mpr ⟨⟨1, by show (n : Int) - 0 = _; omega⟩, ⟨0, by show (0 : Int) - 0 = _; omega⟩, 0, by show (0 : Int) - 0 = _; omega⟩, ← h.iff]
    exact int_one L c
  have hy : InT L c (0, (n : Int), 0) := by
    rw [h.iff, show rg n (0, (n : Int), 0) = rg n e0 from rg_iff.mpr ⟨⟨0, by show (0 : Int) - 0 = _; omega⟩, ⟨1, by show (n : Int) - 0 = _; omega⟩, 0, by show (0 : Int) - 0 = _; omega⟩, ← h.iff]
    exact int_one L c
  have hx := int_endok h.led hx
  have hy := int_endok h.led hy
  obtain ⟨c0, _, rfl | ⟨r, rfl, hr⟩ | ⟨r, s, rfl, sx, rp, sp, q0, q1, cp, hd⟩⟩ := h.led
  · have := hx.1
    have : (n : Int) = 0 := this
    omega
  · obtain ⟨a, ha, hb⟩ := hx
    obtain ⟨a', ha', hb'⟩ := hy
    have ha : (n : Int) = a * r.1 := ha
    have hb : (0 : Int) = a * r.2.1 := hb
    have ha' : (0 : Int) = a' * r.1 := ha'
    have hb' : (n : Int) = a' * r.2.1 := hb'
    have r1 : r.1 ≠ 0 := fun z => by rw [z, Int.mul_zero] at ha; omega
    have : a' = 0 := by rcases Int.mul_eq_zero.mp ha'.symm with z | z; exact z; exact absurd z r1
    rw [this, Int.zero_mul] at hb'
    omega
  · exact ⟨r, s, r.1.toNat, s.2.1.toNat, c.toNat, rfl, by omega, sx, by omega, by omega, by omega, by omega, by omega⟩
theorem in_box {r s : P3} {P S C : Nat} {c : Int} (hr : r.1 = P) (sx : s.1 = 0) (hs : s.2.1 = S) (hc : c = C) (P0 : 0 < P) (S0 : 0 < S) (C0 : 0 < C) (p : P3) : InBox [r, s] c p ↔ (0 ≤ p.1 ∧ p.1.toNat < P) ∧ (0 ≤ p.2.1 ∧ p.2.1.toNat < S) ∧ 0 ≤ p.2.2 ∧ p.2.2.toNat < C := by
  have e1 : whP r p = (r.1, p.1) := by unfold whP; rw [if_pos (by omega)]
  have e2 : whP s p = (s.2.1, p.2.1) := by unfold whP; rw [if_neg (by omega)]
  unfold InBox
  constructor
  · rintro ⟨h1, h2⟩
    have a1 := h2 r (by simp)
    have a2 := h2 s (by simp)
    unfold inB1 at a1 a2
    rw [e1] at a1
    rw [e2] at a2
    have a1 : 0 ≤ p.1 ∧ p.1 < r.1 := a1
    have a2 : 0 ≤ p.2.1 ∧ p.2.1 < s.2.1 := a2
    have a3 := h1 (by omega)
    omega
  · rintro ⟨h1, h2, h3⟩
    refine ⟨fun _ => by omega, fun q hq => ?_⟩
    simp only [List.mem_cons, List.not_mem_nil, or_false] at hq
    unfold inB1
    rcases hq with rfl | rfl
    · rw [e1]; show 0 ≤ p.1 ∧ p.1 < q.1; omega
    · rw [e2]; show 0 ≤ p.2.1 ∧ p.2.1 < q.2.1; omega
/-- members in the ring times places in the box -/
theorem RT.count {n : Nat} {L F : List P3} {c : Int} (h : RT n L c F) {r s : P3} {P S C : Nat} (eL : L = [r, s]) (hr : r.1 = P) (sx : s.1 = 0) (hs : s.2.1 = S) (hc : c = C) (P0 : 0 < P) (S0 : 0 < S) (C0 : 0 < C) : P * S * C * F.length = n * n * n := by
  have n1 : (0 : Int) < n := by have := h.n0; omega
  have bx := in_box hr sx hs hc P0 S0 C0
  rw [← eL] at bx
  have fl : 0 < F.length := by
    have : rg n e0 ∈ F := (h.iff e0).mp (int_one L c)
    exact List.length_pos_of_mem this
  have inv := fun p hp => (int_sb h.led).inv p hp
  refine Nat.le_antisymm ?_ ?_
  · refine inj_le (fun j => ringIx n (rg n (mu (F.getD (j % F.length) e0) (boxAt S C (j / F.length))))) (fun j hj => (ring_ix (rg_in n1 _)).1) fun i j hi hj e => ?_
    have di : i / F.length < P * S * C := Nat.div_lt_of_lt_mul (by rw [Nat.mul_comm]; exact hi)
    have dj : j / F.length < P * S * C := Nat.div_lt_of_lt_mul (by rw [Nat.mul_comm]; exact hj)
    have mi := Nat.mod_lt i fl
    have mj := Nat.mod_lt j fl
    have gi : F.getD (i % F.length) e0 = F[i % F.length] := by rw [List.getD_eq_getElem?_getD, List.getElem?_eq_getElem mi]; rfl
    have gj : F.getD (j % F.length) e0 = F[j % F.length] := by rw [List.getD_eq_getElem?_getD, List.getElem?_eq_getElem mj]; rfl
    simp only [gi, gj] at e
    have hi' : F[i % F.length] ∈ F := List.getElem_mem mi
    have hj' : F[j % F.length] ∈ F := List.getElem_mem mj
    have e := congrArg (ringAt n) e
    rw [(ring_ix (rg_in n1 _)).2, (ring_ix (rg_in n1 _)).2] at e
    obtain ⟨i1, i2, i3, i4, i5, i6, i7⟩ := box_at (P := P) di
    obtain ⟨j1, j2, j3, j4, j5, j6, j7⟩ := box_at (P := P) dj
    have bi := (bx (boxAt S C (i / F.length))).mpr ⟨⟨i4, i1⟩, ⟨i5, i2⟩, i6, i3⟩
    have bj := (bx (boxAt S C (j / F.length))).mpr ⟨⟨j4, j1⟩, ⟨j5, j2⟩, j6, j3⟩
    have ri : restF L c (mu F[i % F.length] (boxAt S C (i / F.length))) = boxAt S C (i / F.length) := by
      rw [← rest_id h.led bi]
      conv => lhs; rw [rest_id h.led bi]
      rw [rest_eq h.led, mu_assoc, mu_iv, mu_e0]
      exact h.mem hi'
    have rj : restF L c (mu F[j % F.length] (boxAt S C (j / F.length))) = boxAt S C (j / F.length) := by
      rw [← rest_id h.led bj]
      conv => lhs; rw [rest_id h.led bj]
      rw [rest_eq h.led, mu_assoc, mu_iv, mu_e0]
      exact h.mem hj'
    have eb : boxAt S C (i / F.length) = boxAt S C (j / F.length) := by
      rw [← ri, ← rj, rest_eq h.led]
      exact h.same e
    have ed : i / F.length = j / F.length := by rw [← i7, ← j7, eb]
    rw [eb] at e
    have ef := rg_can e
    rw [rg_id (h.inr _ hi'), rg_id (h.inr _ hj')] at ef
    have em : i % F.length = j % F.length := (List.getElem_inj h.nd).mp ef
    rw [← Nat.div_add_mod i F.length, ← Nat.div_add_mod j F.length, ed, em]
  · have bt : ∀ k, k < n * n * n → InBox L c (restF L c (ringAt n k)) ∧ rg n (mu (ringAt n k) (iv (restF L c (ringAt n k)))) ∈ F := fun k hk => by
      refine ⟨rest_box h.led _, ?_⟩
      rw [← h.iff]
      have := inv _ (rest_mem h.led (ringAt n k))
      rw [iv_mul, iv_iv] at this
      exact this
    refine inj_le (fun k => boxIx S C (restF L c (ringAt n k)) * F.length + F.idxOf (rg n (mu (ringAt n k) (iv (restF L c (ringAt n k)))))) (fun k hk => ?_) fun i j hi hj e => ?_
    · obtain ⟨h1, h2⟩ := bt k hk
      obtain ⟨b1, b2, b3⟩ := (bx _).mp h1
      have l1 : boxIx S C (restF L c (ringAt n k)) < P * S * C := ix_lt b1.2 b2.2 b3.2
      have l2 := List.idxOf_lt_length_of_mem h2
      have := Nat.mul_le_mul_right F.length (show _ + 1 ≤ _ from l1)
      rw [Nat.add_mul] at this
      show _ + _ < _
      omega
    · obtain ⟨h1, h2⟩ := bt i hi
      obtain ⟨h3, h4⟩ := bt j hj
      have l2 := List.idxOf_lt_length_of_mem h2
      have l4 := List.idxOf_lt_length_of_mem h4
      have e : boxIx S C (restF L c (ringAt n i)) * F.length + F.idxOf (rg n (mu (ringAt n i) (iv (restF L c (ringAt n i))))) = boxIx S C (restF L c (ringAt n j)) * F.length + F.idxOf (rg n (mu (ringAt n j) (iv (restF L c (ringAt n j))))) := e
      have em : F.idxOf (rg n (mu (ringAt n i) (iv (restF L c (ringAt n i))))) = F.idxOf (rg n (mu (ringAt n j) (iv (restF L c (ringAt n j))))) := by
        have md : ∀ {x y z : Nat}, z < y → (x * y + z) % y = z := fun {x y z} hz => by rw [Nat.mul_comm x y, Nat.mul_add_mod, Nat.mod_eq_of_lt hz]
        rw [← md (x := boxIx S C (restF L c (ringAt n i))) l2, e, md l4]
      have eb : boxIx S C (restF L c (ringAt n i)) = boxIx S C (restF L c (ringAt n j)) := Nat.eq_of_mul_eq_mul_right fl (by omega)
      have eb := box_inj (P := P) ((bx _).mp h1) ((bx _).mp h3) eb
      have et : rg n (mu (ringAt n i) (iv (restF L c (ringAt n i)))) = rg n (mu (ringAt n j) (iv (restF L c (ringAt n j)))) := by
        have g1 := List.getElem_idxOf l2
        have g2 := List.getElem_idxOf l4
        rw [← g1, ← g2]
        simp only [em]
      rw [eb] at et
      have := rg_can et
      rw [rg_id (ring_at hi).1, rg_id (ring_at hj).1] at this
      rw [← (ring_at hi).2, ← (ring_at hj).2, this]
end Tbl

set_option linter.all false
set_option maxHeartbeats 4000000
namespace Tbl
theorem RT.power {n : Nat} {L F : List P3} {c : Int} (h : RT n L c F) {p : P3} {o : Option Int} (ho : IsOrd o fun i => InT L c (pw p i)) : ∃ N : Nat, o = some (N : Int) ∧ 0 < N ∧ N ≤ 2 * n * n ∧ (∀ t : Nat, 0 < t → t < N → ¬ rg n (pw p t) ∈ F) ∧ rg n (pw p N) ∈ F := by
  have n0 := h.n0
  have h2 : InT L c (pw p ((2 * n : Nat) : Int)) := by
    rw [h.iff]
    have e : rg n (pw p ((2 * n : Nat) : Int)) = rg n e0 := by
      refine rg_iff.mpr ⟨⟨2 * p.1, ?_⟩, ⟨2 * p.2.1, ?_⟩, 2 * p.2.2 + p.1 * p.2.1 * (2 * n - 1), ?_⟩
      · show ((2 * n : Nat) : Int) * p.1 - 0 = _; push_cast; grind
      · show ((2 * n : Nat) : Int) * p.2.1 - 0 = _; push_cast; grind
      · show ((2 * n : Nat) : Int) * p.2.2 + p.1 * p.2.1 * tr ((2 * n : Nat) : Int) - 0 = _
        have t2 := tr2 ((2 * n : Nat) : Int)
        have e : tr ((2 * n : Nat) : Int) = n * (2 * n - 1) := by
          have : 2 * tr ((2 * n : Nat) : Int) = 2 * (n * (2 * n - 1)) := by rw [t2]; push_cast; grind
          omega
        rw [e]
        push_cast
        grind
    rw [e, ← h.iff]
    exact int_one L c
  match o, ho with
  | none, ho => exact absurd h2 (ho _ (by omega))
  | some N, ho =>
    have N0 := ho.1
    have hN : N ≤ ((2 * n : Nat) : Int) := Int.le_of_dvd (by omega) ((ho.2 _).mp h2)
    refine ⟨N.toNat, by rw [Int.toNat_of_nonneg (by omega)], by omega, ?_, fun t t0 tN hF => ?_, ?_⟩
    · have : 2 * n ≤ 2 * n * n := Nat.le_mul_of_pos_right _ n0
      omega
    · have := (ho.2 t).mp ((h.iff _).mpr hF)
      have := Int.le_of_dvd (by omega) this
      omega
    · rw [Int.toNat_of_nonneg (by omega), ← h.iff]
      exact (ho.2 N).mpr (Int.dvd_refl N)
end Tbl

set_option linter.all false
set_option maxRecDepth 100000
set_option maxHeartbeats 4000000
namespace AW
open PySem PySem.Spec PyProof.Rows L2
def top (i : Nat) : Stmt := PySem.Challenge.pw_areawalks_k36_whole_forward_places.main.body.getD i (.Pass ⟨0, 0, 0, 0⟩)
abbrev s_BadNumber_init : Stmt := inClass (top 4) 0
abbrev s_BadPlace_init : Stmt := inClass (top 5) 0
abbrev s_is_integer : Stmt := top 9
abbrev s_check_integer : Stmt := top 10
abbrev s_Place_init : Stmt := inClass (top 12) 0
abbrev s_Place_eq : Stmt := inClass (top 12) 1
abbrev s_Place_mul : Stmt := inClass (top 12) 2
abbrev s_Place_power : Stmt := inClass (top 12) 4
abbrev s_Place_twist : Stmt := inClass (top 12) 7
abbrev s_check_place : Stmt := top 13
abbrev s_check_places : Stmt := top 14
abbrev s_home_place : Stmt := top 15
abbrev s_is_multiple : Stmt := top 17
abbrev s_form_value : Stmt := top 20
abbrev s_bezout : Stmt := top 21
abbrev s_ledge_forms : Stmt := top 22
abbrev s_failed_form : Stmt := top 23
abbrev s_end_powers : Stmt := top 24
abbrev s_ledge_product : Stmt := top 25
abbrev s_height_over : Stmt := top 26
abbrev s_is_made : Stmt := top 27
abbrev s_Brew_init : Stmt := inClass (top 29) 0
abbrev s_Brew_add_line : Stmt := inClass (top 29) 1
abbrev s_made_numbers : Stmt := top 31
abbrev s_end_x : Stmt := top 32
abbrev s_end_y : Stmt := top 33
abbrev s_swept_area : Stmt := top 34
abbrev s_gathered : Stmt := top 35
abbrev s_divided : Stmt := top 36
abbrev s_lowered : Stmt := top 37
abbrev s_swapped : Stmt := top 38
abbrev s_Table_init : Stmt := inClass (top 43) 0
abbrev s_Table_eq : Stmt := inClass (top 43) 1
abbrev s_Table_contains : Stmt := inClass (top 43) 2
abbrev s_Forward_init : Stmt := inClass (top 47) 0
abbrev s_Forward_table : Stmt := inClass (top 47) 1
abbrev s_Forward_has : Stmt := inClass (top 47) 2
abbrev s_Forward_check_reach : Stmt := inClass (top 47) 4
abbrev s_half_of : Stmt := top 48
abbrev s_wheel_of : Stmt := top 49
abbrev s_l_begin : Stmt := top 51
abbrev s_l_draw : Stmt := top 52
abbrev s_l_pick : Stmt := top 53
abbrev s_l_ten : Stmt := top 54
abbrev s_l_long : Stmt := top 55
abbrev s_l_size : Stmt := top 56
abbrev s_l_number : Stmt := top 57
abbrev s_l_whole_is : Stmt := top 58
abbrev s_l_truth : Stmt := top 59
abbrev s_l_mul : Stmt := top 60
abbrev s_l_undo : Stmt := top 61
abbrev s_l_pow : Stmt := top 62
abbrev s_l_prod : Stmt := top 63
abbrev s_l_place : Stmt := top 64
abbrev s_l_row : Stmt := top 65
abbrev s_l_ledge_right : Stmt := top 66
abbrev s_l_figures : Stmt := top 67
abbrev s_l_brewed : Stmt := top 68
abbrev s_l_table_right : Stmt := top 69
abbrev s_l_returned_right : Stmt := top 70
abbrev s_l_made : Stmt := top 71
abbrev s_l_round : Stmt := top 72
abbrev s_l_shuffled : Stmt := top 73
abbrev s_l_far_right : Stmt := top 74
abbrev s_l_ring_right : Stmt := top 75
abbrev s_law : Stmt := top 76
abbrev N_BadNumber_init : List Str := ["self", "value"]
abbrev P_BadNumber_init : List Str := ["self", "value"]
theorem sc_BadNumber_init : FnScope N_BadNumber_init P_BadNumber_init (defScope s_BadNumber_init) := ⟨rfl, rfl, rfl, by decide +kernel, rfl, by decide +kernel, by decide +kernel⟩
abbrev N_BadPlace_init : List Str := ["self", "value"]
abbrev P_BadPlace_init : List Str := ["self", "value"]
theorem sc_BadPlace_init : FnScope N_BadPlace_init P_BadPlace_init (defScope s_BadPlace_init) := ⟨rfl, rfl, rfl, by decide +kernel, rfl, by decide +kernel, by decide +kernel⟩
abbrev N_is_integer : List Str := ["value"]
abbrev P_is_integer : List Str := ["value"]
theorem sc_is_integer : FnScope N_is_integer P_is_integer (defScope s_is_integer) := ⟨rfl, rfl, rfl, by decide +kernel, rfl, by decide +kernel, by decide +kernel⟩
abbrev N_check_integer : List Str := ["value"]
abbrev P_check_integer : List Str := ["value"]
theorem sc_check_integer : FnScope N_check_integer P_check_integer (defScope s_check_integer) := ⟨rfl, rfl, rfl, by decide +kernel, rfl, by decide +kernel, by decide +kernel⟩
abbrev N_Place_init : List Str := ["self", "x", "y", "area", "value"]
abbrev P_Place_init : List Str := ["self", "x", "y", "area"]
theorem sc_Place_init : FnScope N_Place_init P_Place_init (defScope s_Place_init) := ⟨rfl, rfl, rfl, by decide +kernel, rfl, by decide +kernel, by decide +kernel⟩
abbrev N_Place_eq : List Str := ["self", "other"]
abbrev P_Place_eq : List Str := ["self", "other"]
theorem sc_Place_eq : FnScope N_Place_eq P_Place_eq (defScope s_Place_eq) := ⟨rfl, rfl, rfl, by decide +kernel, rfl, by decide +kernel, by decide +kernel⟩
abbrev N_Place_mul : List Str := ["self", "other"]
abbrev P_Place_mul : List Str := ["self", "other"]
theorem sc_Place_mul : FnScope N_Place_mul P_Place_mul (defScope s_Place_mul) := ⟨rfl, rfl, rfl, by decide +kernel, rfl, by decide +kernel, by decide +kernel⟩
abbrev N_Place_power : List Str := ["self", "number", "swept"]
abbrev P_Place_power : List Str := ["self", "number"]
theorem sc_Place_power : FnScope N_Place_power P_Place_power (defScope s_Place_power) := ⟨rfl, rfl, rfl, by decide +kernel, rfl, by decide +kernel, by decide +kernel⟩
abbrev N_Place_twist : List Str := ["self", "other"]
abbrev P_Place_twist : List Str := ["self", "other"]
theorem sc_Place_twist : FnScope N_Place_twist P_Place_twist (defScope s_Place_twist) := ⟨rfl, rfl, rfl, by decide +kernel, rfl, by decide +kernel, by decide +kernel⟩
abbrev N_check_place : List Str := ["value"]
abbrev P_check_place : List Str := ["value"]
theorem sc_check_place : FnScope N_check_place P_check_place (defScope s_check_place) := ⟨rfl, rfl, rfl, by decide +kernel, rfl, by decide +kernel, by decide +kernel⟩
abbrev N_check_places : List Str := ["values", "value"]
abbrev P_check_places : List Str := ["values"]
theorem sc_check_places : FnScope N_check_places P_check_places (defScope s_check_places) := ⟨rfl, rfl, rfl, by decide +kernel, rfl, by decide +kernel, by decide +kernel⟩
abbrev N_home_place : List Str := []
abbrev P_home_place : List Str := []
theorem sc_home_place : FnScope N_home_place P_home_place (defScope s_home_place) := ⟨rfl, rfl, rfl, by decide +kernel, rfl, by decide +kernel, by decide +kernel⟩
abbrev N_is_multiple : List Str := ["value", "modulus"]
abbrev P_is_multiple : List Str := ["value", "modulus"]
theorem sc_is_multiple : FnScope N_is_multiple P_is_multiple (defScope s_is_multiple) := ⟨rfl, rfl, rfl, by decide +kernel, rfl, by decide +kernel, by decide +kernel⟩
abbrev N_form_value : List Str := ["form", "place"]
abbrev P_form_value : List Str := ["form", "place"]
theorem sc_form_value : FnScope N_form_value P_form_value (defScope s_form_value) := ⟨rfl, rfl, rfl, by decide +kernel, rfl, by decide +kernel, by decide +kernel⟩
abbrev N_bezout : List Str := ["first", "second", "low", "high", "times", "one", "other"]
abbrev P_bezout : List Str := ["first", "second"]
theorem sc_bezout : FnScope N_bezout P_bezout (defScope s_bezout) := ⟨rfl, rfl, rfl, by decide +kernel, rfl, by decide +kernel, by decide +kernel⟩
abbrev N_ledge_forms : List Str := ["ledge", "first", "second"]
abbrev P_ledge_forms : List Str := ["ledge"]
theorem sc_ledge_forms : FnScope N_ledge_forms P_ledge_forms (defScope s_ledge_forms) := ⟨rfl, rfl, rfl, by decide +kernel, rfl, by decide +kernel, by decide +kernel⟩
abbrev N_failed_form : List Str := ["ledge", "place", "form", "modulus"]
abbrev P_failed_form : List Str := ["ledge", "place"]
theorem sc_failed_form : FnScope N_failed_form P_failed_form (defScope s_failed_form) := ⟨rfl, rfl, rfl, by decide +kernel, rfl, by decide +kernel, by decide +kernel⟩
abbrev N_end_powers : List Str := ["ledge", "place", "first", "times"]
abbrev P_end_powers : List Str := ["ledge", "place"]
theorem sc_end_powers : FnScope N_end_powers P_end_powers (defScope s_end_powers) := ⟨rfl, rfl, rfl, by decide +kernel, rfl, by decide +kernel, by decide +kernel⟩
abbrev N_ledge_product : List Str := ["ledge", "powers", "product", "place", "times"]
abbrev P_ledge_product : List Str := ["ledge", "powers"]
theorem sc_ledge_product : FnScope N_ledge_product P_ledge_product (defScope s_ledge_product) := ⟨rfl, rfl, rfl, by decide +kernel, rfl, by decide +kernel, by decide +kernel⟩
abbrev N_height_over : List Str := ["ledge", "place"]
abbrev P_height_over : List Str := ["ledge", "place"]
theorem sc_height_over : FnScope N_height_over P_height_over (defScope s_height_over) := ⟨rfl, rfl, rfl, by decide +kernel, rfl, by decide +kernel, by decide +kernel⟩
abbrev N_is_made : List Str := ["ledge", "home", "place"]
abbrev P_is_made : List Str := ["ledge", "home", "place"]
theorem sc_is_made : FnScope N_is_made P_is_made (defScope s_is_made) := ⟨rfl, rfl, rfl, by decide +kernel, rfl, by decide +kernel, by decide +kernel⟩
abbrev N_Brew_init : List Str := ["self", "told"]
abbrev P_Brew_init : List Str := ["self", "told"]
theorem sc_Brew_init : FnScope N_Brew_init P_Brew_init (defScope s_Brew_init) := ⟨rfl, rfl, rfl, by decide +kernel, rfl, by decide +kernel, by decide +kernel⟩
abbrev N_Brew_add_line : List Str := ["self", "front", "times", "behind"]
abbrev P_Brew_add_line : List Str := ["self", "front", "times", "behind"]
theorem sc_Brew_add_line : FnScope N_Brew_add_line P_Brew_add_line (defScope s_Brew_add_line) := ⟨rfl, rfl, rfl, by decide +kernel, rfl, by decide +kernel, by decide +kernel⟩
abbrev N_made_numbers : List Str := ["brew", "count", "first", "others", "second", "storeys", "home", "_", "ledge", "number"]
abbrev P_made_numbers : List Str := ["brew", "count"]
theorem sc_made_numbers : FnScope N_made_numbers P_made_numbers (defScope s_made_numbers) := ⟨rfl, rfl, rfl, by decide +kernel, rfl, by decide +kernel, by decide +kernel⟩
abbrev N_end_x : List Str := ["place"]
abbrev P_end_x : List Str := ["place"]
theorem sc_end_x : FnScope N_end_x P_end_x (defScope s_end_x) := ⟨rfl, rfl, rfl, by decide +kernel, rfl, by decide +kernel, by decide +kernel⟩
abbrev N_end_y : List Str := ["place"]
abbrev P_end_y : List Str := ["place"]
theorem sc_end_y : FnScope N_end_y P_end_y (defScope s_end_y) := ⟨rfl, rfl, rfl, by decide +kernel, rfl, by decide +kernel, by decide +kernel⟩
abbrev N_swept_area : List Str := ["place"]
abbrev P_swept_area : List Str := ["place"]
theorem sc_swept_area : FnScope N_swept_area P_swept_area (defScope s_swept_area) := ⟨rfl, rfl, rfl, by decide +kernel, rfl, by decide +kernel, by decide +kernel⟩
abbrev N_gathered : List Str := ["brew", "numbers", "measure", "best", "others", "number", "still"]
abbrev P_gathered : List Str := ["brew", "numbers", "measure"]
theorem sc_gathered : FnScope N_gathered P_gathered (defScope s_gathered) := ⟨rfl, rfl, rfl, by decide +kernel, rfl, by decide +kernel, by decide +kernel⟩
abbrev N_divided : List Str := ["brew", "high", "low", "measure"]
abbrev P_divided : List Str := ["brew", "high", "low", "measure"]
theorem sc_divided : FnScope N_divided P_divided (defScope s_divided) := ⟨rfl, rfl, rfl, by decide +kernel, rfl, by decide +kernel, by decide +kernel⟩
abbrev N_lowered : List Str := ["brew", "number", "unit", "measure", "times"]
abbrev P_lowered : List Str := ["brew", "number", "unit", "measure"]
theorem sc_lowered : FnScope N_lowered P_lowered (defScope s_lowered) := ⟨rfl, rfl, rfl, by decide +kernel, rfl, by decide +kernel, by decide +kernel⟩
abbrev N_swapped : List Str := ["brew", "first", "second", "both"]
abbrev P_swapped : List Str := ["brew", "first", "second"]
theorem sc_swapped : FnScope N_swapped P_swapped (defScope s_swapped) := ⟨rfl, rfl, rfl, by decide +kernel, rfl, by decide +kernel, by decide +kernel⟩
abbrev N_Table_init : List Str := ["self", "told", "brew", "numbers", "home", "number"]
abbrev P_Table_init : List Str := ["self", "told"]
theorem sc_Table_init : FnScope N_Table_init P_Table_init (defScope s_Table_init) := ⟨rfl, rfl, rfl, by decide +kernel, rfl, by decide +kernel, by decide +kernel⟩
abbrev N_Table_eq : List Str := ["self", "other"]
abbrev P_Table_eq : List Str := ["self", "other"]
theorem sc_Table_eq : FnScope N_Table_eq P_Table_eq (defScope s_Table_eq) := ⟨rfl, rfl, rfl, by decide +kernel, rfl, by decide +kernel, by decide +kernel⟩
abbrev N_Table_contains : List Str := ["self", "place"]
abbrev P_Table_contains : List Str := ["self", "place"]
theorem sc_Table_contains : FnScope N_Table_contains P_Table_contains (defScope s_Table_contains) := ⟨rfl, rfl, rfl, by decide +kernel, rfl, by decide +kernel, by decide +kernel⟩
abbrev N_Forward_init : List Str := ["self", "told"]
abbrev P_Forward_init : List Str := ["self", "told"]
theorem sc_Forward_init : FnScope N_Forward_init P_Forward_init (defScope s_Forward_init) := ⟨rfl, rfl, rfl, by decide +kernel, rfl, by decide +kernel, by decide +kernel⟩
abbrev N_Forward_table : List Str := ["self"]
abbrev P_Forward_table : List Str := ["self"]
theorem sc_Forward_table : FnScope N_Forward_table P_Forward_table (defScope s_Forward_table) := ⟨rfl, rfl, rfl, by decide +kernel, rfl, by decide +kernel, by decide +kernel⟩
abbrev N_Forward_has : List Str := ["self", "place"]
abbrev P_Forward_has : List Str := ["self", "place"]
theorem sc_Forward_has : FnScope N_Forward_has P_Forward_has (defScope s_Forward_has) := ⟨rfl, rfl, rfl, by decide +kernel, rfl, by decide +kernel, by decide +kernel⟩
abbrev N_Forward_check_reach : List Str := ["self", "place"]
abbrev P_Forward_check_reach : List Str := ["self", "place"]
theorem sc_Forward_check_reach : FnScope N_Forward_check_reach P_Forward_check_reach (defScope s_Forward_check_reach) := ⟨rfl, rfl, rfl, by decide +kernel, rfl, by decide +kernel, by decide +kernel⟩
abbrev N_half_of : List Str := ["places", "form", "place"]
abbrev P_half_of : List Str := ["places"]
theorem sc_half_of : FnScope N_half_of P_half_of (defScope s_half_of) := ⟨rfl, rfl, rfl, by decide +kernel, rfl, by decide +kernel, by decide +kernel⟩
abbrev N_wheel_of : List Str := ["places", "first", "hub", "left", "right", "facing", "at", "place", "side"]
abbrev P_wheel_of : List Str := ["places"]
theorem sc_wheel_of : FnScope N_wheel_of P_wheel_of (defScope s_wheel_of) := ⟨rfl, rfl, rfl, by decide +kernel, rfl, by decide +kernel, by decide +kernel⟩
abbrev N_l_begin : List Str := ["_law_script"]
abbrev P_l_begin : List Str := ["_law_script"]
theorem sc_l_begin : FnScope N_l_begin P_l_begin (defScope s_l_begin) := ⟨rfl, rfl, rfl, by decide +kernel, rfl, by decide +kernel, by decide +kernel⟩
abbrev N_l_draw : List Str := ["_law_tape", "_law_limit", "_law_at", "_law_span", "_law_cell", "_law_mixed", "_law_found"]
abbrev P_l_draw : List Str := ["_law_tape", "_law_limit"]
theorem sc_l_draw : FnScope N_l_draw P_l_draw (defScope s_l_draw) := ⟨rfl, rfl, rfl, by decide +kernel, rfl, by decide +kernel, by decide +kernel⟩
abbrev N_l_pick : List Str := ["_law_tape", "_law_some"]
abbrev P_l_pick : List Str := ["_law_tape", "_law_some"]
theorem sc_l_pick : FnScope N_l_pick P_l_pick (defScope s_l_pick) := ⟨rfl, rfl, rfl, by decide +kernel, rfl, by decide +kernel, by decide +kernel⟩
abbrev N_l_ten : List Str := ["_law_figures_here"]
abbrev P_l_ten : List Str := ["_law_figures_here"]
theorem sc_l_ten : FnScope N_l_ten P_l_ten (defScope s_l_ten) := ⟨rfl, rfl, rfl, by decide +kernel, rfl, by decide +kernel, by decide +kernel⟩
abbrev N_l_long : List Str := ["_law_tape", "_law_figures_here", "_law_found", "_law_k"]
abbrev P_l_long : List Str := ["_law_tape", "_law_figures_here"]
theorem sc_l_long : FnScope N_l_long P_l_long (defScope s_l_long) := ⟨rfl, rfl, rfl, by decide +kernel, rfl, by decide +kernel, by decide +kernel⟩
abbrev N_l_size : List Str := ["_law_tape", "_law_figures_here", "_law_sort"]
abbrev P_l_size : List Str := ["_law_tape", "_law_figures_here"]
theorem sc_l_size : FnScope N_l_size P_l_size (defScope s_l_size) := ⟨rfl, rfl, rfl, by decide +kernel, rfl, by decide +kernel, by decide +kernel⟩
abbrev N_l_number : List Str := ["_law_tape", "_law_figures_here", "_law_found"]
abbrev P_l_number : List Str := ["_law_tape", "_law_figures_here"]
theorem sc_l_number : FnScope N_l_number P_l_number (defScope s_l_number) := ⟨rfl, rfl, rfl, by decide +kernel, rfl, by decide +kernel, by decide +kernel⟩
abbrev N_l_whole_is : List Str := ["_law_value", "_law_due"]
abbrev P_l_whole_is : List Str := ["_law_value", "_law_due"]
theorem sc_l_whole_is : FnScope N_l_whole_is P_l_whole_is (defScope s_l_whole_is) := ⟨rfl, rfl, rfl, by decide +kernel, rfl, by decide +kernel, by decide +kernel⟩
abbrev N_l_truth : List Str := ["_law_value", "_law_due"]
abbrev P_l_truth : List Str := ["_law_value", "_law_due"]
theorem sc_l_truth : FnScope N_l_truth P_l_truth (defScope s_l_truth) := ⟨rfl, rfl, rfl, by decide +kernel, rfl, by decide +kernel, by decide +kernel⟩
abbrev N_l_mul : List Str := ["_law_one", "_law_other"]
abbrev P_l_mul : List Str := ["_law_one", "_law_other"]
theorem sc_l_mul : FnScope N_l_mul P_l_mul (defScope s_l_mul) := ⟨rfl, rfl, rfl, by decide +kernel, rfl, by decide +kernel, by decide +kernel⟩
abbrev N_l_undo : List Str := ["_law_one"]
abbrev P_l_undo : List Str := ["_law_one"]
theorem sc_l_undo : FnScope N_l_undo P_l_undo (defScope s_l_undo) := ⟨rfl, rfl, rfl, by decide +kernel, rfl, by decide +kernel, by decide +kernel⟩
abbrev N_l_pow : List Str := ["_law_one", "_law_times"]
abbrev P_l_pow : List Str := ["_law_one", "_law_times"]
theorem sc_l_pow : FnScope N_l_pow P_l_pow (defScope s_l_pow) := ⟨rfl, rfl, rfl, by decide +kernel, rfl, by decide +kernel, by decide +kernel⟩
abbrev N_l_prod : List Str := ["_law_rows", "_law_found", "_law_row_here"]
abbrev P_l_prod : List Str := ["_law_rows"]
theorem sc_l_prod : FnScope N_l_prod P_l_prod (defScope s_l_prod) := ⟨rfl, rfl, rfl, by decide +kernel, rfl, by decide +kernel, by decide +kernel⟩
abbrev N_l_place : List Str := ["_law_row_here"]
abbrev P_l_place : List Str := ["_law_row_here"]
theorem sc_l_place : FnScope N_l_place P_l_place (defScope s_l_place) := ⟨rfl, rfl, rfl, by decide +kernel, rfl, by decide +kernel, by decide +kernel⟩
abbrev N_l_row : List Str := ["_law_place_here"]
abbrev P_l_row : List Str := ["_law_place_here"]
theorem sc_l_row : FnScope N_l_row P_l_row (defScope s_l_row) := ⟨rfl, rfl, rfl, by decide +kernel, rfl, by decide +kernel, by decide +kernel⟩
abbrev N_l_ledge_right : List Str := ["_law_rows", "_law_home", "_law_p", "_law_q", "_law_r", "_law_x", "_law_s", "_law_t", "_law_row_here"]
abbrev P_l_ledge_right : List Str := ["_law_rows", "_law_home"]
theorem sc_l_ledge_right : FnScope N_l_ledge_right P_l_ledge_right (defScope s_l_ledge_right) := ⟨rfl, rfl, rfl, by decide +kernel, rfl, by decide +kernel, by decide +kernel⟩
abbrev N_l_figures : List Str := ["_law_rows", "_law_home", "_law_row_here", "_law_left", "_law_counts", "_law_line", "_law_whole", "_law_part"]
abbrev P_l_figures : List Str := ["_law_rows", "_law_home", "_law_row_here"]
theorem sc_l_figures : FnScope N_l_figures P_l_figures (defScope s_l_figures) := ⟨rfl, rfl, rfl, by decide +kernel, rfl, by decide +kernel, by decide +kernel⟩
abbrev N_l_brewed : List Str := ["_law_told", "_law_recipe", "_law_stock", "_law_line", "_law_one", "_law_times", "_law_other", "_law_part"]
abbrev P_l_brewed : List Str := ["_law_told", "_law_recipe"]
theorem sc_l_brewed : FnScope N_l_brewed P_l_brewed (defScope s_l_brewed) := ⟨rfl, rfl, rfl, by decide +kernel, rfl, by decide +kernel, by decide +kernel⟩
abbrev N_l_table_right : List Str := ["_law_table", "_law_told", "_law_rows", "_law_home", "_law_stock", "_law_due", "_law_place_here", "_law_number_here", "_law_row_here"]
abbrev P_l_table_right : List Str := ["_law_table", "_law_told"]
theorem sc_l_table_right : FnScope N_l_table_right P_l_table_right (defScope s_l_table_right) := ⟨rfl, rfl, rfl, by decide +kernel, rfl, by decide +kernel, by decide +kernel⟩
abbrev N_l_returned_right : List Str := ["_law_table", "_law_place_here"]
abbrev P_l_returned_right : List Str := ["_law_table"]
theorem sc_l_returned_right : FnScope N_l_returned_right P_l_returned_right (defScope s_l_returned_right) := ⟨rfl, rfl, rfl, by decide +kernel, rfl, by decide +kernel, by decide +kernel⟩
abbrev N_l_made : List Str := ["_law_tape", "_law_rows", "_law_home", "_law_figures_here", "_law_found", "_law_row_here"]
abbrev P_l_made : List Str := ["_law_tape", "_law_rows", "_law_home", "_law_figures_here"]
theorem sc_l_made : FnScope N_l_made P_l_made (defScope s_l_made) := ⟨rfl, rfl, rfl, by decide +kernel, rfl, by decide +kernel, by decide +kernel⟩
abbrev N_l_round : List Str := ["_law_tape", "_law_figures_here", "_law_p", "_law_q", "_law_r", "_law_s", "_law_ends", "_law_found", "_law_k", "_law_end"]
abbrev P_l_round : List Str := ["_law_tape", "_law_figures_here"]
theorem sc_l_round : FnScope N_l_round P_l_round (defScope s_l_round) := ⟨rfl, rfl, rfl, by decide +kernel, rfl, by decide +kernel, by decide +kernel⟩
abbrev N_l_shuffled : List Str := ["_law_tape", "_law_some", "_law_left", "_law_found", "_law_k"]
abbrev P_l_shuffled : List Str := ["_law_tape", "_law_some"]
theorem sc_l_shuffled : FnScope N_l_shuffled P_l_shuffled (defScope s_l_shuffled) := ⟨rfl, rfl, rfl, by decide +kernel, rfl, by decide +kernel, by decide +kernel⟩
abbrev N_l_far_right : List Str := ["_law_tape", "_law_told", "_law_found", "_law_table", "_law_rows", "_law_home", "_law_walks", "_law_own", "_law_row_here", "_law_place_here"]
abbrev P_l_far_right : List Str := ["_law_tape"]
theorem sc_l_far_right : FnScope N_l_far_right P_l_far_right (defScope s_l_far_right) := ⟨rfl, rfl, rfl, by decide +kernel, rfl, by decide +kernel, by decide +kernel⟩
abbrev N_l_ring_right : List Str := ["_law_tape", "_law_ring", "_law_told", "_law_k", "_law_reached", "_law_waiting", "_law_turn", "_law_here", "_law_row_here", "_law_there", "_law_wide", "_law_found", "_law_far"]
abbrev P_l_ring_right : List Str := ["_law_tape"]
theorem sc_l_ring_right : FnScope N_l_ring_right P_l_ring_right (defScope s_l_ring_right) := ⟨rfl, rfl, rfl, by decide +kernel, rfl, by decide +kernel, by decide +kernel⟩
abbrev N_law : List Str := ["_law_script", "_law_tape"]
abbrev P_law : List Str := ["_law_script"]
theorem sc_law : FnScope N_law P_law (defScope s_law) := ⟨rfl, rfl, rfl, by decide +kernel, rfl, by decide +kernel, by decide +kernel⟩
/-- a def whose code object is known -/
structure FunC (K : PySem.W.Frag) (x qual : Str) (st : Stmt) (f : Addr) (fd : FuncData) (c : Addr) : Prop where
  ex : ∃ (oc : Value) (od : Option Addr) (kV doc pm : Value) (an : Option Addr) (ct : Value) (osl : Array (Option Value)),
    fd = PySem.W.fnOf x qual (defArgs st) (defBody st) (defScope st) .none kV doc pm an (.ref c) ct ∧ K.lookup f = some ⟨oc, od, .func fd, osl⟩ ∧ PySem.W.codeIn K (.ref c) qual = true
  kp : PySem.W.keepIn K (.ref f) = true
section
variable {P : Program} {w : World} {K : PySem.W.Frag} {mg : Str → Option Value} {base : Heap}
theorem FunC.okX {x qual : Str} {st : Stmt} {f : Addr} {fd : FuncData} {c : Addr} {N ps : List Str} {k : Nat} {sp : Sp} (F : FunC K x qual st f fd c) (S : FnScope N ps (defScope st)) (len : ∀ vs H Q E, sp vs H Q E → vs.length = ps.length)
    (hbody : ∀ (A : Around) (outer : List Env) (s : Shared) (H : Hp) (vs : List V) (Q : VK) (E : XK), Room k (A.deeper (envOfC qual (defScope st) s.heap.objs.size f (.ref c))) → sp vs H Q E →
      ∃ t, PSs (cxOf (L2.CX P w) P w K mg base N qual (defScope st) f (.ref c) A outer s H E) (defBody st) t ∧ t { nx := fun _ H' => Q .non H', rt := Q } (start N vs) H) : FnOk P w K mg base (L2.CX P w) (k + 1) f fd ps sp := by
  obtain ⟨oc, od, kV, doc, pm, an, ct, osl, rfl, lk, hcd⟩ := F.ex
  exact fn_of lk hcd S len fun A outer s H vs Q E hr hsp => hbody A outer s H vs Q E hr hsp
end
set_option genInjectivity false in
set_option genSizeOf false in
set_option genSizeOfSpec false in
/-- what the top has left -/
structure Tx (K : PySem.W.Frag) (mg : Str → Option Value) where
  a_is_integer : Addr
  d_is_integer : FuncData
  F_is_integer : Fun K "is_integer" "is_integer" s_is_integer a_is_integer d_is_integer
  b_is_integer : Binds K d_is_integer P_is_integer []
  g_is_integer : mg "is_integer" = some (.ref a_is_integer)
  a_check_integer : Addr
  d_check_integer : FuncData
  F_check_integer : Fun K "check_integer" "check_integer" s_check_integer a_check_integer d_check_integer
  b_check_integer : Binds K d_check_integer P_check_integer []
  g_check_integer : mg "check_integer" = some (.ref a_check_integer)
  a_check_place : Addr
  d_check_place : FuncData
  F_check_place : Fun K "check_place" "check_place" s_check_place a_check_place d_check_place
  b_check_place : Binds K d_check_place P_check_place []
  g_check_place : mg "check_place" = some (.ref a_check_place)
  a_check_places : Addr
  d_check_places : FuncData
  F_check_places : Fun K "check_places" "check_places" s_check_places a_check_places d_check_places
  b_check_places : Binds K d_check_places P_check_places []
  g_check_places : mg "check_places" = some (.ref a_check_places)
  a_home_place : Addr
  d_home_place : FuncData
  F_home_place : Fun K "home_place" "home_place" s_home_place a_home_place d_home_place
  b_home_place : Binds K d_home_place P_home_place []
  g_home_place : mg "home_place" = some (.ref a_home_place)
  a_is_multiple : Addr
  d_is_multiple : FuncData
  F_is_multiple : Fun K "is_multiple" "is_multiple" s_is_multiple a_is_multiple d_is_multiple
  b_is_multiple : Binds K d_is_multiple P_is_multiple []
  g_is_multiple : mg "is_multiple" = some (.ref a_is_multiple)
  a_form_value : Addr
  d_form_value : FuncData
  F_form_value : Fun K "form_value" "form_value" s_form_value a_form_value d_form_value
  b_form_value : Binds K d_form_value P_form_value []
  g_form_value : mg "form_value" = some (.ref a_form_value)
  a_bezout : Addr
  d_bezout : FuncData
  F_bezout : Fun K "bezout" "bezout" s_bezout a_bezout d_bezout
  b_bezout : Binds K d_bezout P_bezout []
  g_bezout : mg "bezout" = some (.ref a_bezout)
  a_ledge_forms : Addr
  d_ledge_forms : FuncData
  F_ledge_forms : Fun K "ledge_forms" "ledge_forms" s_ledge_forms a_ledge_forms d_ledge_forms
  b_ledge_forms : Binds K d_ledge_forms P_ledge_forms []
  g_ledge_forms : mg "ledge_forms" = some (.ref a_ledge_forms)
  a_failed_form : Addr
  d_failed_form : FuncData
  F_failed_form : Fun K "failed_form" "failed_form" s_failed_form a_failed_form d_failed_form
  b_failed_form : Binds K d_failed_form P_failed_form []
  g_failed_form : mg "failed_form" = some (.ref a_failed_form)
  a_end_powers : Addr
  d_end_powers : FuncData
  F_end_powers : Fun K "end_powers" "end_powers" s_end_powers a_end_powers d_end_powers
  b_end_powers : Binds K d_end_powers P_end_powers []
  g_end_powers : mg "end_powers" = some (.ref a_end_powers)
  a_ledge_product : Addr
  d_ledge_product : FuncData
  F_ledge_product : Fun K "ledge_product" "ledge_product" s_ledge_product a_ledge_product d_ledge_product
  b_ledge_product : Binds K d_ledge_product P_ledge_product []
  g_ledge_product : mg "ledge_product" = some (.ref a_ledge_product)
  a_height_over : Addr
  d_height_over : FuncData
  F_height_over : Fun K "height_over" "height_over" s_height_over a_height_over d_height_over
  b_height_over : Binds K d_height_over P_height_over []
  g_height_over : mg "height_over" = some (.ref a_height_over)
  a_is_made : Addr
  d_is_made : FuncData
  F_is_made : Fun K "is_made" "is_made" s_is_made a_is_made d_is_made
  b_is_made : Binds K d_is_made P_is_made []
  g_is_made : mg "is_made" = some (.ref a_is_made)
  a_made_numbers : Addr
  d_made_numbers : FuncData
  F_made_numbers : Fun K "made_numbers" "made_numbers" s_made_numbers a_made_numbers d_made_numbers
  b_made_numbers : Binds K d_made_numbers P_made_numbers []
  g_made_numbers : mg "made_numbers" = some (.ref a_made_numbers)
  a_end_x : Addr
  d_end_x : FuncData
  F_end_x : Fun K "end_x" "end_x" s_end_x a_end_x d_end_x
  b_end_x : Binds K d_end_x P_end_x []
  g_end_x : mg "end_x" = some (.ref a_end_x)
  a_end_y : Addr
  d_end_y : FuncData
  F_end_y : Fun K "end_y" "end_y" s_end_y a_end_y d_end_y
  b_end_y : Binds K d_end_y P_end_y []
  g_end_y : mg "end_y" = some (.ref a_end_y)
  a_swept_area : Addr
  d_swept_area : FuncData
  F_swept_area : Fun K "swept_area" "swept_area" s_swept_area a_swept_area d_swept_area
  b_swept_area : Binds K d_swept_area P_swept_area []
  g_swept_area : mg "swept_area" = some (.ref a_swept_area)
  a_gathered : Addr
  d_gathered : FuncData
  F_gathered : Fun K "gathered" "gathered" s_gathered a_gathered d_gathered
  b_gathered : Binds K d_gathered P_gathered []
  g_gathered : mg "gathered" = some (.ref a_gathered)
  a_divided : Addr
  d_divided : FuncData
  F_divided : Fun K "divided" "divided" s_divided a_divided d_divided
  b_divided : Binds K d_divided P_divided []
  g_divided : mg "divided" = some (.ref a_divided)
  a_lowered : Addr
  d_lowered : FuncData
  F_lowered : Fun K "lowered" "lowered" s_lowered a_lowered d_lowered
  b_lowered : Binds K d_lowered P_lowered []
  g_lowered : mg "lowered" = some (.ref a_lowered)
  a_swapped : Addr
  d_swapped : FuncData
  F_swapped : Fun K "swapped" "swapped" s_swapped a_swapped d_swapped
  b_swapped : Binds K d_swapped P_swapped []
  g_swapped : mg "swapped" = some (.ref a_swapped)
  a_half_of : Addr
  d_half_of : FuncData
  F_half_of : Fun K "half_of" "half_of" s_half_of a_half_of d_half_of
  b_half_of : Binds K d_half_of P_half_of []
  g_half_of : mg "half_of" = some (.ref a_half_of)
  a_wheel_of : Addr
  d_wheel_of : FuncData
  F_wheel_of : Fun K "wheel_of" "wheel_of" s_wheel_of a_wheel_of d_wheel_of
  b_wheel_of : Binds K d_wheel_of P_wheel_of []
  g_wheel_of : mg "wheel_of" = some (.ref a_wheel_of)
  a_l_begin : Addr
  d_l_begin : FuncData
  F_l_begin : Fun K "_law_begin" "_law_begin" s_l_begin a_l_begin d_l_begin
  b_l_begin : Binds K d_l_begin P_l_begin []
  g_l_begin : mg "_law_begin" = some (.ref a_l_begin)
  a_l_draw : Addr
  d_l_draw : FuncData
  F_l_draw : Fun K "_law_draw" "_law_draw" s_l_draw a_l_draw d_l_draw
  b_l_draw : Binds K d_l_draw P_l_draw []
  g_l_draw : mg "_law_draw" = some (.ref a_l_draw)
  a_l_pick : Addr
  d_l_pick : FuncData
  F_l_pick : Fun K "_law_pick" "_law_pick" s_l_pick a_l_pick d_l_pick
  b_l_pick : Binds K d_l_pick P_l_pick []
  g_l_pick : mg "_law_pick" = some (.ref a_l_pick)
  a_l_ten : Addr
  d_l_ten : FuncData
  F_l_ten : Fun K "_law_ten" "_law_ten" s_l_ten a_l_ten d_l_ten
  b_l_ten : Binds K d_l_ten P_l_ten []
  g_l_ten : mg "_law_ten" = some (.ref a_l_ten)
  a_l_long : Addr
  d_l_long : FuncData
  F_l_long : Fun K "_law_long" "_law_long" s_l_long a_l_long d_l_long
  b_l_long : Binds K d_l_long P_l_long []
  g_l_long : mg "_law_long" = some (.ref a_l_long)
  a_l_size : Addr
  d_l_size : FuncData
  F_l_size : Fun K "_law_size" "_law_size" s_l_size a_l_size d_l_size
  b_l_size : Binds K d_l_size P_l_size []
  g_l_size : mg "_law_size" = some (.ref a_l_size)
  a_l_number : Addr
  d_l_number : FuncData
  F_l_number : Fun K "_law_number" "_law_number" s_l_number a_l_number d_l_number
  b_l_number : Binds K d_l_number P_l_number []
  g_l_number : mg "_law_number" = some (.ref a_l_number)
  a_l_whole_is : Addr
  d_l_whole_is : FuncData
  F_l_whole_is : Fun K "_law_whole_is" "_law_whole_is" s_l_whole_is a_l_whole_is d_l_whole_is
  b_l_whole_is : Binds K d_l_whole_is P_l_whole_is []
  g_l_whole_is : mg "_law_whole_is" = some (.ref a_l_whole_is)
  a_l_truth : Addr
  d_l_truth : FuncData
  F_l_truth : Fun K "_law_truth" "_law_truth" s_l_truth a_l_truth d_l_truth
  b_l_truth : Binds K d_l_truth P_l_truth []
  g_l_truth : mg "_law_truth" = some (.ref a_l_truth)
  a_l_mul : Addr
  d_l_mul : FuncData
  F_l_mul : Fun K "_law_mul" "_law_mul" s_l_mul a_l_mul d_l_mul
  b_l_mul : Binds K d_l_mul P_l_mul []
  g_l_mul : mg "_law_mul" = some (.ref a_l_mul)
  a_l_undo : Addr
  d_l_undo : FuncData
  F_l_undo : Fun K "_law_undo" "_law_undo" s_l_undo a_l_undo d_l_undo
  b_l_undo : Binds K d_l_undo P_l_undo []
  g_l_undo : mg "_law_undo" = some (.ref a_l_undo)
  a_l_pow : Addr
  d_l_pow : FuncData
  F_l_pow : Fun K "_law_pow" "_law_pow" s_l_pow a_l_pow d_l_pow
  b_l_pow : Binds K d_l_pow P_l_pow []
  g_l_pow : mg "_law_pow" = some (.ref a_l_pow)
  a_l_prod : Addr
  d_l_prod : FuncData
  F_l_prod : Fun K "_law_prod" "_law_prod" s_l_prod a_l_prod d_l_prod
  b_l_prod : Binds K d_l_prod P_l_prod []
  g_l_prod : mg "_law_prod" = some (.ref a_l_prod)
  a_l_place : Addr
  d_l_place : FuncData
  F_l_place : Fun K "_law_place" "_law_place" s_l_place a_l_place d_l_place
  b_l_place : Binds K d_l_place P_l_place []
  g_l_place : mg "_law_place" = some (.ref a_l_place)
  a_l_row : Addr
  d_l_row : FuncData
  F_l_row : Fun K "_law_row" "_law_row" s_l_row a_l_row d_l_row
  b_l_row : Binds K d_l_row P_l_row []
  g_l_row : mg "_law_row" = some (.ref a_l_row)
  a_l_ledge_right : Addr
  d_l_ledge_right : FuncData
  F_l_ledge_right : Fun K "_law_ledge_right" "_law_ledge_right" s_l_ledge_right a_l_ledge_right d_l_ledge_right
  b_l_ledge_right : Binds K d_l_ledge_right P_l_ledge_right []
  g_l_ledge_right : mg "_law_ledge_right" = some (.ref a_l_ledge_right)
  a_l_figures : Addr
  d_l_figures : FuncData
  F_l_figures : Fun K "_law_figures" "_law_figures" s_l_figures a_l_figures d_l_figures
  b_l_figures : Binds K d_l_figures P_l_figures []
  g_l_figures : mg "_law_figures" = some (.ref a_l_figures)
  a_l_brewed : Addr
  d_l_brewed : FuncData
  F_l_brewed : Fun K "_law_brewed" "_law_brewed" s_l_brewed a_l_brewed d_l_brewed
  b_l_brewed : Binds K d_l_brewed P_l_brewed []
  g_l_brewed : mg "_law_brewed" = some (.ref a_l_brewed)
  a_l_table_right : Addr
  d_l_table_right : FuncData
  F_l_table_right : Fun K "_law_table_right" "_law_table_right" s_l_table_right a_l_table_right d_l_table_right
  b_l_table_right : Binds K d_l_table_right P_l_table_right []
  g_l_table_right : mg "_law_table_right" = some (.ref a_l_table_right)
  a_l_returned_right : Addr
  d_l_returned_right : FuncData
  F_l_returned_right : Fun K "_law_returned_right" "_law_returned_right" s_l_returned_right a_l_returned_right d_l_returned_right
  b_l_returned_right : Binds K d_l_returned_right P_l_returned_right []
  g_l_returned_right : mg "_law_returned_right" = some (.ref a_l_returned_right)
  a_l_made : Addr
  d_l_made : FuncData
  F_l_made : Fun K "_law_made" "_law_made" s_l_made a_l_made d_l_made
  b_l_made : Binds K d_l_made P_l_made []
  g_l_made : mg "_law_made" = some (.ref a_l_made)
  a_l_round : Addr
  d_l_round : FuncData
  F_l_round : Fun K "_law_round" "_law_round" s_l_round a_l_round d_l_round
  b_l_round : Binds K d_l_round P_l_round []
  g_l_round : mg "_law_round" = some (.ref a_l_round)
  a_l_shuffled : Addr
  d_l_shuffled : FuncData
  F_l_shuffled : Fun K "_law_shuffled" "_law_shuffled" s_l_shuffled a_l_shuffled d_l_shuffled
  b_l_shuffled : Binds K d_l_shuffled P_l_shuffled []
  g_l_shuffled : mg "_law_shuffled" = some (.ref a_l_shuffled)
  a_l_far_right : Addr
  d_l_far_right : FuncData
  F_l_far_right : Fun K "_law_far_right" "_law_far_right" s_l_far_right a_l_far_right d_l_far_right
  b_l_far_right : Binds K d_l_far_right P_l_far_right []
  g_l_far_right : mg "_law_far_right" = some (.ref a_l_far_right)
  a_l_ring_right : Addr
  d_l_ring_right : FuncData
  F_l_ring_right : Fun K "_law_ring_right" "_law_ring_right" s_l_ring_right a_l_ring_right d_l_ring_right
  b_l_ring_right : Binds K d_l_ring_right P_l_ring_right []
  g_l_ring_right : mg "_law_ring_right" = some (.ref a_l_ring_right)
  a_law : Addr
  d_law : FuncData
  F_law : Fun K "law" "law" s_law a_law d_law
  b_law : Binds K d_law P_law []
  g_law : mg "law" = some (.ref a_law)
  C_BadNumber : Addr
  g_C_BadNumber : mg "BadNumber" = some (.ref C_BadNumber)
  a_BadNumber_init : Addr
  d_BadNumber_init : FuncData
  F_BadNumber_init : Fun K "__init__" "BadNumber.__init__" s_BadNumber_init a_BadNumber_init d_BadNumber_init
  b_BadNumber_init : Binds K d_BadNumber_init P_BadNumber_init []
  X_BadNumber : OexC K C_BadNumber
  ei_BadNumber : PySem.W.findIn K (.ref C_BadNumber) "__init__" = some (some (.ref a_BadNumber_init))
  et_BadNumber : PySem.W.typeIn K (.ref a_BadNumber_init) = some (.type "function")
  na_BadNumber_value : PySem.W.findIn K (.ref C_BadNumber) "value" = some none
  C_BadPlace : Addr
  g_C_BadPlace : mg "BadPlace" = some (.ref C_BadPlace)
  a_BadPlace_init : Addr
  d_BadPlace_init : FuncData
  F_BadPlace_init : Fun K "__init__" "BadPlace.__init__" s_BadPlace_init a_BadPlace_init d_BadPlace_init
  b_BadPlace_init : Binds K d_BadPlace_init P_BadPlace_init []
  X_BadPlace : OexC K C_BadPlace
  ei_BadPlace : PySem.W.findIn K (.ref C_BadPlace) "__init__" = some (some (.ref a_BadPlace_init))
  et_BadPlace : PySem.W.typeIn K (.ref a_BadPlace_init) = some (.type "function")
  na_BadPlace_value : PySem.W.findIn K (.ref C_BadPlace) "value" = some none
  C_Place : Addr
  g_C_Place : mg "Place" = some (.ref C_Place)
  cl_Place : Cls K C_Place
  ca_Place : PySem.W.findIn K (.ref C_Place) "__class__" = some (some (.builtin "object.__class__"))
  cm_Place : PySem.W.mroIn K C_Place (.type "object") = some true
  na_Place_x : NoAttr K C_Place "x"
  na_Place_y : NoAttr K C_Place "y"
  na_Place_area : NoAttr K C_Place "area"
  a_Place_init : Addr
  d_Place_init : FuncData
  F_Place_init : Fun K "__init__" "Place.__init__" s_Place_init a_Place_init d_Place_init
  b_Place_init : Binds K d_Place_init P_Place_init []
  M_Place : Mk K C_Place a_Place_init
  a_Place_eq : Addr
  d_Place_eq : FuncData
  F_Place_eq : Fun K "__eq__" "Place.__eq__" s_Place_eq a_Place_eq d_Place_eq
  b_Place_eq : Binds K d_Place_eq P_Place_eq []
  E_Place : EqC K C_Place a_Place_eq
  a_Place_mul : Addr
  d_Place_mul : FuncData
  F_Place_mul : Fun K "__mul__" "Place.__mul__" s_Place_mul a_Place_mul d_Place_mul
  b_Place_mul : Binds K d_Place_mul P_Place_mul []
  O_Place_Mult : OpC K C_Place a_Place_mul .Mult
  a_Place_power : Addr
  d_Place_power : FuncData
  F_Place_power : Fun K "power" "Place.power" s_Place_power a_Place_power d_Place_power
  b_Place_power : Binds K d_Place_power P_Place_power []
  M_Place_power : Meth K C_Place "power" a_Place_power
  a_Place_twist : Addr
  d_Place_twist : FuncData
  F_Place_twist : Fun K "twist" "Place.twist" s_Place_twist a_Place_twist d_Place_twist
  b_Place_twist : Binds K d_Place_twist P_Place_twist []
  M_Place_twist : Meth K C_Place "twist" a_Place_twist
  C_Brew : Addr
  g_C_Brew : mg "Brew" = some (.ref C_Brew)
  cl_Brew : Cls K C_Brew
  na_Brew_places : NoAttr K C_Brew "places"
  na_Brew_lines : NoAttr K C_Brew "lines"
  a_Brew_init : Addr
  d_Brew_init : FuncData
  F_Brew_init : Fun K "__init__" "Brew.__init__" s_Brew_init a_Brew_init d_Brew_init
  b_Brew_init : Binds K d_Brew_init P_Brew_init []
  M_Brew : Mk K C_Brew a_Brew_init
  a_Brew_add_line : Addr
  d_Brew_add_line : FuncData
  F_Brew_add_line : Fun K "add_line" "Brew.add_line" s_Brew_add_line a_Brew_add_line d_Brew_add_line
  b_Brew_add_line : Binds K d_Brew_add_line P_Brew_add_line []
  M_Brew_add_line : Meth K C_Brew "add_line" a_Brew_add_line
  C_Table : Addr
  g_C_Table : mg "Table" = some (.ref C_Table)
  cl_Table : Cls K C_Table
  ca_Table : PySem.W.findIn K (.ref C_Table) "__class__" = some (some (.builtin "object.__class__"))
  cm_Table : PySem.W.mroIn K C_Table (.type "object") = some true
  na_Table_told : NoAttr K C_Table "told"
  na_Table_ledge : NoAttr K C_Table "ledge"
  na_Table_home : NoAttr K C_Table "home"
  na_Table_recipe : NoAttr K C_Table "recipe"
  na_Table_made : NoAttr K C_Table "made"
  a_Table_init : Addr
  d_Table_init : FuncData
  F_Table_init : Fun K "__init__" "Table.__init__" s_Table_init a_Table_init d_Table_init
  b_Table_init : Binds K d_Table_init P_Table_init []
  M_Table : Mk K C_Table a_Table_init
  a_Table_eq : Addr
  d_Table_eq : FuncData
  F_Table_eq : Fun K "__eq__" "Table.__eq__" s_Table_eq a_Table_eq d_Table_eq
  b_Table_eq : Binds K d_Table_eq P_Table_eq []
  E_Table : EqC K C_Table a_Table_eq
  a_Table_contains : Addr
  d_Table_contains : FuncData
  F_Table_contains : Fun K "__contains__" "Table.__contains__" s_Table_contains a_Table_contains d_Table_contains
  b_Table_contains : Binds K d_Table_contains P_Table_contains []
  M_Table_contains : Meth K C_Table "__contains__" a_Table_contains
  C_Forward : Addr
  g_C_Forward : mg "Forward" = some (.ref C_Forward)
  cl_Forward : Cls K C_Forward
  na_Forward_whole : NoAttr K C_Forward "whole"
  na_Forward_told : NoAttr K C_Forward "told"
  na_Forward_half : NoAttr K C_Forward "half"
  na_Forward_around : NoAttr K C_Forward "around"
  na_Forward_wheel : NoAttr K C_Forward "wheel"
  a_Forward_init : Addr
  d_Forward_init : FuncData
  F_Forward_init : Fun K "__init__" "Forward.__init__" s_Forward_init a_Forward_init d_Forward_init
  b_Forward_init : Binds K d_Forward_init P_Forward_init []
  M_Forward : Mk K C_Forward a_Forward_init
  a_Forward_table : Addr
  d_Forward_table : FuncData
  F_Forward_table : Fun K "table" "Forward.table" s_Forward_table a_Forward_table d_Forward_table
  b_Forward_table : Binds K d_Forward_table P_Forward_table []
  M_Forward_table : Meth K C_Forward "table" a_Forward_table
  a_Forward_has : Addr
  d_Forward_has : FuncData
  F_Forward_has : Fun K "has" "Forward.has" s_Forward_has a_Forward_has d_Forward_has
  b_Forward_has : Binds K d_Forward_has P_Forward_has []
  M_Forward_has : Meth K C_Forward "has" a_Forward_has
  a_Forward_check_reach : Addr
  d_Forward_check_reach : FuncData
  F_Forward_check_reach : Fun K "check_reach" "Forward.check_reach" s_Forward_check_reach a_Forward_check_reach d_Forward_check_reach
  b_Forward_check_reach : Binds K d_Forward_check_reach P_Forward_check_reach []
  M_Forward_check_reach : Meth K C_Forward "check_reach" a_Forward_check_reach
  cn : PySem.W.specialIn K (.builtin "object.__class__") "__get__" = some (some (.builtin "getset_descriptor.__get__"))
  ct : PySem.W.takesIn K (.builtin "object.__class__") = some true
  io_Place_int : PySem.W.kitOne K (.ref C_Place) (.type "int") = some false
  io_Place_bool : PySem.W.kitOne K (.ref C_Place) (.type "bool") = some false
  is_NoneType_Place : PySem.W.kitOne K (.type "NoneType") (.ref C_Place) = some false
  is_bool_Place : PySem.W.kitOne K (.type "bool") (.ref C_Place) = some false
  is_int_Place : PySem.W.kitOne K (.type "int") (.ref C_Place) = some false
  is_str_Place : PySem.W.kitOne K (.type "str") (.ref C_Place) = some false
  is_list_Place : PySem.W.kitOne K (.type "list") (.ref C_Place) = some false
  is_tuple_Place : PySem.W.kitOne K (.type "tuple") (.ref C_Place) = some false
  is_dict_Place : PySem.W.kitOne K (.type "dict") (.ref C_Place) = some false
  n_all : mg "all" = none
  n_bool : mg "bool" = none
  n_enumerate : mg "enumerate" = none
  n_int : mg "int" = none
  n_isinstance : mg "isinstance" = none
  n_len : mg "len" = none
  n_list : mg "list" = none
  n_max : mg "max" = none
  n_min : mg "min" = none
  n_range : mg "range" = none
  n_tuple : mg "tuple" = none
  n_zip : mg "zip" = none
  tk_MOST_TOLD : Tok
  gc_MOST_TOLD : mg "MOST_TOLD" = some (.int 8 tk_MOST_TOLD)
  mi_gcd : mg "gcd" = some (.builtin "math.gcd")
theorem tx_mk {K : PySem.W.Frag} {h : Heap} {mg : Str → Option Value} {fa : Addr} {f_BadNumber_init : Addr} {od_BadNumber_init an_BadNumber_init : Option Addr} {sl_BadNumber_init : Array (Option Value)} {oc_BadNumber_init kV_BadNumber_init dc_BadNumber_init pm_BadNumber_init cd_BadNumber_init ct_BadNumber_init : Value}
    {f_BadPlace_init : Addr} {od_BadPlace_init an_BadPlace_init : Option Addr} {sl_BadPlace_init : Array (Option Value)} {oc_BadPlace_init kV_BadPlace_init dc_BadPlace_init pm_BadPlace_init cd_BadPlace_init ct_BadPlace_init : Value}
    {f_is_integer : Addr} {od_is_integer an_is_integer : Option Addr} {sl_is_integer : Array (Option Value)} {oc_is_integer kV_is_integer dc_is_integer pm_is_integer cd_is_integer ct_is_integer : Value}
    {f_check_integer : Addr} {od_check_integer an_check_integer : Option Addr} {sl_check_integer : Array (Option Value)} {oc_check_integer kV_check_integer dc_check_integer pm_check_integer cd_check_integer ct_check_integer : Value}
    {f_Place_init : Addr} {od_Place_init an_Place_init : Option Addr} {sl_Place_init : Array (Option Value)} {oc_Place_init kV_Place_init dc_Place_init pm_Place_init cd_Place_init ct_Place_init : Value}
    {f_Place_eq : Addr} {od_Place_eq an_Place_eq : Option Addr} {sl_Place_eq : Array (Option Value)} {oc_Place_eq kV_Place_eq dc_Place_eq pm_Place_eq cd_Place_eq ct_Place_eq : Value}
    {f_Place_mul : Addr} {od_Place_mul an_Place_mul : Option Addr} {sl_Place_mul : Array (Option Value)} {oc_Place_mul kV_Place_mul dc_Place_mul pm_Place_mul cd_Place_mul ct_Place_mul : Value}
    {f_Place_power : Addr} {od_Place_power an_Place_power : Option Addr} {sl_Place_power : Array (Option Value)} {oc_Place_power kV_Place_power dc_Place_power pm_Place_power cd_Place_power ct_Place_power : Value}
    {f_Place_twist : Addr} {od_Place_twist an_Place_twist : Option Addr} {sl_Place_twist : Array (Option Value)} {oc_Place_twist kV_Place_twist dc_Place_twist pm_Place_twist cd_Place_twist ct_Place_twist : Value}
    {f_check_place : Addr} {od_check_place an_check_place : Option Addr} {sl_check_place : Array (Option Value)} {oc_check_place kV_check_place dc_check_place pm_check_place cd_check_place ct_check_place : Value}
    {f_check_places : Addr} {od_check_places an_check_places : Option Addr} {sl_check_places : Array (Option Value)} {oc_check_places kV_check_places dc_check_places pm_check_places cd_check_places ct_check_places : Value}
    {f_home_place : Addr} {od_home_place an_home_place : Option Addr} {sl_home_place : Array (Option Value)} {oc_home_place kV_home_place dc_home_place pm_home_place cd_home_place ct_home_place : Value}
    {f_is_multiple : Addr} {od_is_multiple an_is_multiple : Option Addr} {sl_is_multiple : Array (Option Value)} {oc_is_multiple kV_is_multiple dc_is_multiple pm_is_multiple cd_is_multiple ct_is_multiple : Value}
    {f_form_value : Addr} {od_form_value an_form_value : Option Addr} {sl_form_value : Array (Option Value)} {oc_form_value kV_form_value dc_form_value pm_form_value cd_form_value ct_form_value : Value}
    {f_bezout : Addr} {od_bezout an_bezout : Option Addr} {sl_bezout : Array (Option Value)} {oc_bezout kV_bezout dc_bezout pm_bezout cd_bezout ct_bezout : Value}
    {f_ledge_forms : Addr} {od_ledge_forms an_ledge_forms : Option Addr} {sl_ledge_forms : Array (Option Value)} {oc_ledge_forms kV_ledge_forms dc_ledge_forms pm_ledge_forms cd_ledge_forms ct_ledge_forms : Value}
    {f_failed_form : Addr} {od_failed_form an_failed_form : Option Addr} {sl_failed_form : Array (Option Value)} {oc_failed_form kV_failed_form dc_failed_form pm_failed_form cd_failed_form ct_failed_form : Value}
    {f_end_powers : Addr} {od_end_powers an_end_powers : Option Addr} {sl_end_powers : Array (Option Value)} {oc_end_powers kV_end_powers dc_end_powers pm_end_powers cd_end_powers ct_end_powers : Value}
    {f_ledge_product : Addr} {od_ledge_product an_ledge_product : Option Addr} {sl_ledge_product : Array (Option Value)} {oc_ledge_product kV_ledge_product dc_ledge_product pm_ledge_product cd_ledge_product ct_ledge_product : Value}
    {f_height_over : Addr} {od_height_over an_height_over : Option Addr} {sl_height_over : Array (Option Value)} {oc_height_over kV_height_over dc_height_over pm_height_over cd_height_over ct_height_over : Value}
    {f_is_made : Addr} {od_is_made an_is_made : Option Addr} {sl_is_made : Array (Option Value)} {oc_is_made kV_is_made dc_is_made pm_is_made cd_is_made ct_is_made : Value}
    {f_Brew_init : Addr} {od_Brew_init an_Brew_init : Option Addr} {sl_Brew_init : Array (Option Value)} {oc_Brew_init kV_Brew_init dc_Brew_init pm_Brew_init cd_Brew_init ct_Brew_init : Value}
    {f_Brew_add_line : Addr} {od_Brew_add_line an_Brew_add_line : Option Addr} {sl_Brew_add_line : Array (Option Value)} {oc_Brew_add_line kV_Brew_add_line dc_Brew_add_line pm_Brew_add_line cd_Brew_add_line ct_Brew_add_line : Value}
    {f_made_numbers : Addr} {od_made_numbers an_made_numbers : Option Addr} {sl_made_numbers : Array (Option Value)} {oc_made_numbers kV_made_numbers dc_made_numbers pm_made_numbers cd_made_numbers ct_made_numbers : Value}
    {f_end_x : Addr} {od_end_x an_end_x : Option Addr} {sl_end_x : Array (Option Value)} {oc_end_x kV_end_x dc_end_x pm_end_x cd_end_x ct_end_x : Value}
    {f_end_y : Addr} {od_end_y an_end_y : Option Addr} {sl_end_y : Array (Option Value)} {oc_end_y kV_end_y dc_end_y pm_end_y cd_end_y ct_end_y : Value}
    {f_swept_area : Addr} {od_swept_area an_swept_area : Option Addr} {sl_swept_area : Array (Option Value)} {oc_swept_area kV_swept_area dc_swept_area pm_swept_area cd_swept_area ct_swept_area : Value}
    {f_gathered : Addr} {od_gathered an_gathered : Option Addr} {sl_gathered : Array (Option Value)} {oc_gathered kV_gathered dc_gathered pm_gathered cd_gathered ct_gathered : Value}
    {f_divided : Addr} {od_divided an_divided : Option Addr} {sl_divided : Array (Option Value)} {oc_divided kV_divided dc_divided pm_divided cd_divided ct_divided : Value}
    {f_lowered : Addr} {od_lowered an_lowered : Option Addr} {sl_lowered : Array (Option Value)} {oc_lowered kV_lowered dc_lowered pm_lowered cd_lowered ct_lowered : Value}
    {f_swapped : Addr} {od_swapped an_swapped : Option Addr} {sl_swapped : Array (Option Value)} {oc_swapped kV_swapped dc_swapped pm_swapped cd_swapped ct_swapped : Value}
    {f_Table_init : Addr} {od_Table_init an_Table_init : Option Addr} {sl_Table_init : Array (Option Value)} {oc_Table_init kV_Table_init dc_Table_init pm_Table_init cd_Table_init ct_Table_init : Value}
    {f_Table_eq : Addr} {od_Table_eq an_Table_eq : Option Addr} {sl_Table_eq : Array (Option Value)} {oc_Table_eq kV_Table_eq dc_Table_eq pm_Table_eq cd_Table_eq ct_Table_eq : Value}
    {f_Table_contains : Addr} {od_Table_contains an_Table_contains : Option Addr} {sl_Table_contains : Array (Option Value)} {oc_Table_contains kV_Table_contains dc_Table_contains pm_Table_contains cd_Table_contains ct_Table_contains : Value}
    {f_Forward_init : Addr} {od_Forward_init an_Forward_init : Option Addr} {sl_Forward_init : Array (Option Value)} {oc_Forward_init kV_Forward_init dc_Forward_init pm_Forward_init cd_Forward_init ct_Forward_init : Value}
    {f_Forward_table : Addr} {od_Forward_table an_Forward_table : Option Addr} {sl_Forward_table : Array (Option Value)} {oc_Forward_table kV_Forward_table dc_Forward_table pm_Forward_table cd_Forward_table ct_Forward_table : Value}
    {f_Forward_has : Addr} {od_Forward_has an_Forward_has : Option Addr} {sl_Forward_has : Array (Option Value)} {oc_Forward_has kV_Forward_has dc_Forward_has pm_Forward_has cd_Forward_has ct_Forward_has : Value}
    {f_Forward_check_reach : Addr} {od_Forward_check_reach an_Forward_check_reach : Option Addr} {sl_Forward_check_reach : Array (Option Value)} {oc_Forward_check_reach kV_Forward_check_reach dc_Forward_check_reach pm_Forward_check_reach cd_Forward_check_reach ct_Forward_check_reach : Value}
    {f_half_of : Addr} {od_half_of an_half_of : Option Addr} {sl_half_of : Array (Option Value)} {oc_half_of kV_half_of dc_half_of pm_half_of cd_half_of ct_half_of : Value}
    {f_wheel_of : Addr} {od_wheel_of an_wheel_of : Option Addr} {sl_wheel_of : Array (Option Value)} {oc_wheel_of kV_wheel_of dc_wheel_of pm_wheel_of cd_wheel_of ct_wheel_of : Value}
    {f_l_begin : Addr} {od_l_begin an_l_begin : Option Addr} {sl_l_begin : Array (Option Value)} {oc_l_begin kV_l_begin dc_l_begin pm_l_begin cd_l_begin ct_l_begin : Value}
    {f_l_draw : Addr} {od_l_draw an_l_draw : Option Addr} {sl_l_draw : Array (Option Value)} {oc_l_draw kV_l_draw dc_l_draw pm_l_draw cd_l_draw ct_l_draw : Value}
    {f_l_pick : Addr} {od_l_pick an_l_pick : Option Addr} {sl_l_pick : Array (Option Value)} {oc_l_pick kV_l_pick dc_l_pick pm_l_pick cd_l_pick ct_l_pick : Value}
    {f_l_ten : Addr} {od_l_ten an_l_ten : Option Addr} {sl_l_ten : Array (Option Value)} {oc_l_ten kV_l_ten dc_l_ten pm_l_ten cd_l_ten ct_l_ten : Value}
    {f_l_long : Addr} {od_l_long an_l_long : Option Addr} {sl_l_long : Array (Option Value)} {oc_l_long kV_l_long dc_l_long pm_l_long cd_l_long ct_l_long : Value}
    {f_l_size : Addr} {od_l_size an_l_size : Option Addr} {sl_l_size : Array (Option Value)} {oc_l_size kV_l_size dc_l_size pm_l_size cd_l_size ct_l_size : Value}
    {f_l_number : Addr} {od_l_number an_l_number : Option Addr} {sl_l_number : Array (Option Value)} {oc_l_number kV_l_number dc_l_number pm_l_number cd_l_number ct_l_number : Value}
    {f_l_whole_is : Addr} {od_l_whole_is an_l_whole_is : Option Addr} {sl_l_whole_is : Array (Option Value)} {oc_l_whole_is kV_l_whole_is dc_l_whole_is pm_l_whole_is cd_l_whole_is ct_l_whole_is : Value}
    {f_l_truth : Addr} {od_l_truth an_l_truth : Option Addr} {sl_l_truth : Array (Option Value)} {oc_l_truth kV_l_truth dc_l_truth pm_l_truth cd_l_truth ct_l_truth : Value}
    {f_l_mul : Addr} {od_l_mul an_l_mul : Option Addr} {sl_l_mul : Array (Option Value)} {oc_l_mul kV_l_mul dc_l_mul pm_l_mul cd_l_mul ct_l_mul : Value}
    {f_l_undo : Addr} {od_l_undo an_l_undo : Option Addr} {sl_l_undo : Array (Option Value)} {oc_l_undo kV_l_undo dc_l_undo pm_l_undo cd_l_undo ct_l_undo : Value}
    {f_l_pow : Addr} {od_l_pow an_l_pow : Option Addr} {sl_l_pow : Array (Option Value)} {oc_l_pow kV_l_pow dc_l_pow pm_l_pow cd_l_pow ct_l_pow : Value}
    {f_l_prod : Addr} {od_l_prod an_l_prod : Option Addr} {sl_l_prod : Array (Option Value)} {oc_l_prod kV_l_prod dc_l_prod pm_l_prod cd_l_prod ct_l_prod : Value}
    {f_l_place : Addr} {od_l_place an_l_place : Option Addr} {sl_l_place : Array (Option Value)} {oc_l_place kV_l_place dc_l_place pm_l_place cd_l_place ct_l_place : Value}
    {f_l_row : Addr} {od_l_row an_l_row : Option Addr} {sl_l_row : Array (Option Value)} {oc_l_row kV_l_row dc_l_row pm_l_row cd_l_row ct_l_row : Value}
    {f_l_ledge_right : Addr} {od_l_ledge_right an_l_ledge_right : Option Addr} {sl_l_ledge_right : Array (Option Value)} {oc_l_ledge_right kV_l_ledge_right dc_l_ledge_right pm_l_ledge_right cd_l_ledge_right ct_l_ledge_right : Value}
    {f_l_figures : Addr} {od_l_figures an_l_figures : Option Addr} {sl_l_figures : Array (Option Value)} {oc_l_figures kV_l_figures dc_l_figures pm_l_figures cd_l_figures ct_l_figures : Value}
    {f_l_brewed : Addr} {od_l_brewed an_l_brewed : Option Addr} {sl_l_brewed : Array (Option Value)} {oc_l_brewed kV_l_brewed dc_l_brewed pm_l_brewed cd_l_brewed ct_l_brewed : Value}
    {f_l_table_right : Addr} {od_l_table_right an_l_table_right : Option Addr} {sl_l_table_right : Array (Option Value)} {oc_l_table_right kV_l_table_right dc_l_table_right pm_l_table_right cd_l_table_right ct_l_table_right : Value}
    {f_l_returned_right : Addr} {od_l_returned_right an_l_returned_right : Option Addr} {sl_l_returned_right : Array (Option Value)} {oc_l_returned_right kV_l_returned_right dc_l_returned_right pm_l_returned_right cd_l_returned_right ct_l_returned_right : Value}
    {f_l_made : Addr} {od_l_made an_l_made : Option Addr} {sl_l_made : Array (Option Value)} {oc_l_made kV_l_made dc_l_made pm_l_made cd_l_made ct_l_made : Value}
    {f_l_round : Addr} {od_l_round an_l_round : Option Addr} {sl_l_round : Array (Option Value)} {oc_l_round kV_l_round dc_l_round pm_l_round cd_l_round ct_l_round : Value}
    {f_l_shuffled : Addr} {od_l_shuffled an_l_shuffled : Option Addr} {sl_l_shuffled : Array (Option Value)} {oc_l_shuffled kV_l_shuffled dc_l_shuffled pm_l_shuffled cd_l_shuffled ct_l_shuffled : Value}
    {f_l_far_right : Addr} {od_l_far_right an_l_far_right : Option Addr} {sl_l_far_right : Array (Option Value)} {oc_l_far_right kV_l_far_right dc_l_far_right pm_l_far_right cd_l_far_right ct_l_far_right : Value}
    {f_l_ring_right : Addr} {od_l_ring_right an_l_ring_right : Option Addr} {sl_l_ring_right : Array (Option Value)} {oc_l_ring_right kV_l_ring_right dc_l_ring_right pm_l_ring_right cd_l_ring_right ct_l_ring_right : Value}
    {f_law : Addr} {od_law an_law : Option Addr} {sl_law : Array (Option Value)} {oc_law kV_law dc_law pm_law cd_law ct_law : Value}
    {C_WalkError : Addr}
    {C_BadNumber : Addr}
    {C_BadPlace : Addr}
    {C_Place : Addr}
    {C_Brew : Addr}
    {C_Table : Addr}
    {C_Forward : Addr}
    {nm_BadNumber qn_BadNumber : Str} {NN_BadNumber : Addr} {bs_BadNumber sb_BadNumber : List Value} {sn_BadNumber : List Str} {ab_BadNumber : Bool} {co_BadNumber : Option Bool} {dd_BadNumber : Option Addr} {m0_BadNumber m1_BadNumber m2_BadNumber m3_BadNumber m5_BadNumber : Option Value}
    {nm_BadPlace qn_BadPlace : Str} {NN_BadPlace : Addr} {bs_BadPlace sb_BadPlace : List Value} {sn_BadPlace : List Str} {ab_BadPlace : Bool} {co_BadPlace : Option Bool} {dd_BadPlace : Option Addr} {m0_BadPlace m1_BadPlace m2_BadPlace m3_BadPlace m5_BadPlace : Option Value}
    {tk_MOST_TOLD : Tok}
    (X : K.In h) (G : h.Ns mainGlobals mg) (hfa : mg "law" = some (.ref fa))
    (g_is_integer : PySem.W.nsIn K mainGlobals "is_integer" = some (some (.ref f_is_integer)))
    (l_is_integer : K.lookup f_is_integer = some ⟨oc_is_integer, od_is_integer, .func (PySem.W.fnOf "is_integer" "is_integer" (defArgs s_is_integer) (defBody s_is_integer) (defScope s_is_integer) .none kV_is_integer dc_is_integer pm_is_integer an_is_integer cd_is_integer ct_is_integer), sl_is_integer⟩)
    (c_is_integer : PySem.W.codeIn K cd_is_integer "is_integer" = true)
    (k_is_integer : PySem.W.keepIn K (.ref f_is_integer) = true)
    (g_check_integer : PySem.W.nsIn K mainGlobals "check_integer" = some (some (.ref f_check_integer)))
    (l_check_integer : K.lookup f_check_integer = some ⟨oc_check_integer, od_check_integer, .func (PySem.W.fnOf "check_integer" "check_integer" (defArgs s_check_integer) (defBody s_check_integer) (defScope s_check_integer) .none kV_check_integer dc_check_integer pm_check_integer an_check_integer cd_check_integer ct_check_integer), sl_check_integer⟩)
    (c_check_integer : PySem.W.codeIn K cd_check_integer "check_integer" = true)
    (k_check_integer : PySem.W.keepIn K (.ref f_check_integer) = true)
    (g_check_place : PySem.W.nsIn K mainGlobals "check_place" = some (some (.ref f_check_place)))
    (l_check_place : K.lookup f_check_place = some ⟨oc_check_place, od_check_place, .func (PySem.W.fnOf "check_place" "check_place" (defArgs s_check_place) (defBody s_check_place) (defScope s_check_place) .none kV_check_place dc_check_place pm_check_place an_check_place cd_check_place ct_check_place), sl_check_place⟩)
    (c_check_place : PySem.W.codeIn K cd_check_place "check_place" = true)
    (k_check_place : PySem.W.keepIn K (.ref f_check_place) = true)
    (g_check_places : PySem.W.nsIn K mainGlobals "check_places" = some (some (.ref f_check_places)))
    (l_check_places : K.lookup f_check_places = some ⟨oc_check_places, od_check_places, .func (PySem.W.fnOf "check_places" "check_places" (defArgs s_check_places) (defBody s_check_places) (defScope s_check_places) .none kV_check_places dc_check_places pm_check_places an_check_places cd_check_places ct_check_places), sl_check_places⟩)
    (c_check_places : PySem.W.codeIn K cd_check_places "check_places" = true)
    (k_check_places : PySem.W.keepIn K (.ref f_check_places) = true)
    (g_home_place : PySem.W.nsIn K mainGlobals "home_place" = some (some (.ref f_home_place)))
    (l_home_place : K.lookup f_home_place = some ⟨oc_home_place, od_home_place, .func (PySem.W.fnOf "home_place" "home_place" (defArgs s_home_place) (defBody s_home_place) (defScope s_home_place) .none kV_home_place dc_home_place pm_home_place an_home_place cd_home_place ct_home_place), sl_home_place⟩)
    (c_home_place : PySem.W.codeIn K cd_home_place "home_place" = true)
    (k_home_place : PySem.W.keepIn K (.ref f_home_place) = true)
    (g_is_multiple : PySem.W.nsIn K mainGlobals "is_multiple" = some (some (.ref f_is_multiple)))
    (l_is_multiple : K.lookup f_is_multiple = some ⟨oc_is_multiple, od_is_multiple, .func (PySem.W.fnOf "is_multiple" "is_multiple" (defArgs s_is_multiple) (defBody s_is_multiple) (defScope s_is_multiple) .none kV_is_multiple dc_is_multiple pm_is_multiple an_is_multiple cd_is_multiple ct_is_multiple), sl_is_multiple⟩)
    (c_is_multiple : PySem.W.codeIn K cd_is_multiple "is_multiple" = true)
    (k_is_multiple : PySem.W.keepIn K (.ref f_is_multiple) = true)
    (g_form_value : PySem.W.nsIn K mainGlobals "form_value" = some (some (.ref f_form_value)))
    (l_form_value : K.lookup f_form_value = some ⟨oc_form_value, od_form_value, .func (PySem.W.fnOf "form_value" "form_value" (defArgs s_form_value) (defBody s_form_value) (defScope s_form_value) .none kV_form_value dc_form_value pm_form_value an_form_value cd_form_value ct_form_value), sl_form_value⟩)
    (c_form_value : PySem.W.codeIn K cd_form_value "form_value" = true)
    (k_form_value : PySem.W.keepIn K (.ref f_form_value) = true)
    (g_bezout : PySem.W.nsIn K mainGlobals "bezout" = some (some (.ref f_bezout)))
    (l_bezout : K.lookup f_bezout = some ⟨oc_bezout, od_bezout, .func (PySem.W.fnOf "bezout" "bezout" (defArgs s_bezout) (defBody s_bezout) (defScope s_bezout) .none kV_bezout dc_bezout pm_bezout an_bezout cd_bezout ct_bezout), sl_bezout⟩)
    (c_bezout : PySem.W.codeIn K cd_bezout "bezout" = true)
    (k_bezout : PySem.W.keepIn K (.ref f_bezout) = true)
    (g_ledge_forms : PySem.W.nsIn K mainGlobals "ledge_forms" = some (some (.ref f_ledge_forms)))
    (l_ledge_forms : K.lookup f_ledge_forms = some ⟨oc_ledge_forms, od_ledge_forms, .func (PySem.W.fnOf "ledge_forms" "ledge_forms" (defArgs s_ledge_forms) (defBody s_ledge_forms) (defScope s_ledge_forms) .none kV_ledge_forms dc_ledge_forms pm_ledge_forms an_ledge_forms cd_ledge_forms ct_ledge_forms), sl_ledge_forms⟩)
    (c_ledge_forms : PySem.W.codeIn K cd_ledge_forms "ledge_forms" = true)
    (k_ledge_forms : PySem.W.keepIn K (.ref f_ledge_forms) = true)
    (g_failed_form : PySem.W.nsIn K mainGlobals "failed_form" = some (some (.ref f_failed_form)))
    (l_failed_form : K.lookup f_failed_form = some ⟨oc_failed_form, od_failed_form, .func (PySem.W.fnOf "failed_form" "failed_form" (defArgs s_failed_form) (defBody s_failed_form) (defScope s_failed_form) .none kV_failed_form dc_failed_form pm_failed_form an_failed_form cd_failed_form ct_failed_form), sl_failed_form⟩)
    (c_failed_form : PySem.W.codeIn K cd_failed_form "failed_form" = true)
    (k_failed_form : PySem.W.keepIn K (.ref f_failed_form) = true)
    (g_end_powers : PySem.W.nsIn K mainGlobals "end_powers" = some (some (.ref f_end_powers)))
    (l_end_powers : K.lookup f_end_powers = some ⟨oc_end_powers, od_end_powers, .func (PySem.W.fnOf "end_powers" "end_powers" (defArgs s_end_powers) (defBody s_end_powers) (defScope s_end_powers) .none kV_end_powers dc_end_powers pm_end_powers an_end_powers cd_end_powers ct_end_powers), sl_end_powers⟩)
    (c_end_powers : PySem.W.codeIn K cd_end_powers "end_powers" = true)
    (k_end_powers : PySem.W.keepIn K (.ref f_end_powers) = true)
    (g_ledge_product : PySem.W.nsIn K mainGlobals "ledge_product" = some (some (.ref f_ledge_product)))
    (l_ledge_product : K.lookup f_ledge_product = some ⟨oc_ledge_product, od_ledge_product, .func (PySem.W.fnOf "ledge_product" "ledge_product" (defArgs s_ledge_product) (defBody s_ledge_product) (defScope s_ledge_product) .none kV_ledge_product dc_ledge_product pm_ledge_product an_ledge_product cd_ledge_product ct_ledge_product), sl_ledge_product⟩)
    (c_ledge_product : PySem.W.codeIn K cd_ledge_product "ledge_product" = true)
    (k_ledge_product : PySem.W.keepIn K (.ref f_ledge_product) = true)
    (g_height_over : PySem.W.nsIn K mainGlobals "height_over" = some (some (.ref f_height_over)))
    (l_height_over : K.lookup f_height_over = some ⟨oc_height_over, od_height_over, .func (PySem.W.fnOf "height_over" "height_over" (defArgs s_height_over) (defBody s_height_over) (defScope s_height_over) .none kV_height_over dc_height_over pm_height_over an_height_over cd_height_over ct_height_over), sl_height_over⟩)
    (c_height_over : PySem.W.codeIn K cd_height_over "height_over" = true)
    (k_height_over : PySem.W.keepIn K (.ref f_height_over) = true)
    (g_is_made : PySem.W.nsIn K mainGlobals "is_made" = some (some (.ref f_is_made)))
    (l_is_made : K.lookup f_is_made = some ⟨oc_is_made, od_is_made, .func (PySem.W.fnOf "is_made" "is_made" (defArgs s_is_made) (defBody s_is_made) (defScope s_is_made) .none kV_is_made dc_is_made pm_is_made an_is_made cd_is_made ct_is_made), sl_is_made⟩)
    (c_is_made : PySem.W.codeIn K cd_is_made "is_made" = true)
    (k_is_made : PySem.W.keepIn K (.ref f_is_made) = true)
    (g_made_numbers : PySem.W.nsIn K mainGlobals "made_numbers" = some (some (.ref f_made_numbers)))
    (l_made_numbers : K.lookup f_made_numbers = some ⟨oc_made_numbers, od_made_numbers, .func (PySem.W.fnOf "made_numbers" "made_numbers" (defArgs s_made_numbers) (defBody s_made_numbers) (defScope s_made_numbers) .none kV_made_numbers dc_made_numbers pm_made_numbers an_made_numbers cd_made_numbers ct_made_numbers), sl_made_numbers⟩)
    (c_made_numbers : PySem.W.codeIn K cd_made_numbers "made_numbers" = true)
    (k_made_numbers : PySem.W.keepIn K (.ref f_made_numbers) = true)
    (g_end_x : PySem.W.nsIn K mainGlobals "end_x" = some (some (.ref f_end_x)))
    (l_end_x : K.lookup f_end_x = some ⟨oc_end_x, od_end_x, .func (PySem.W.fnOf "end_x" "end_x" (defArgs s_end_x) (defBody s_end_x) (defScope s_end_x) .none kV_end_x dc_end_x pm_end_x an_end_x cd_end_x ct_end_x), sl_end_x⟩)
    (c_end_x : PySem.W.codeIn K cd_end_x "end_x" = true)
    (k_end_x : PySem.W.keepIn K (.ref f_end_x) = true)
    (g_end_y : PySem.W.nsIn K mainGlobals "end_y" = some (some (.ref f_end_y)))
    (l_end_y : K.lookup f_end_y = some ⟨oc_end_y, od_end_y, .func (PySem.W.fnOf "end_y" "end_y" (defArgs s_end_y) (defBody s_end_y) (defScope s_end_y) .none kV_end_y dc_end_y pm_end_y an_end_y cd_end_y ct_end_y), sl_end_y⟩)
    (c_end_y : PySem.W.codeIn K cd_end_y "end_y" = true)
    (k_end_y : PySem.W.keepIn K (.ref f_end_y) = true)
    (g_swept_area : PySem.W.nsIn K mainGlobals "swept_area" = some (some (.ref f_swept_area)))
    (l_swept_area : K.lookup f_swept_area = some ⟨oc_swept_area, od_swept_area, .func (PySem.W.fnOf "swept_area" "swept_area" (defArgs s_swept_area) (defBody s_swept_area) (defScope s_swept_area) .none kV_swept_area dc_swept_area pm_swept_area an_swept_area cd_swept_area ct_swept_area), sl_swept_area⟩)
    (c_swept_area : PySem.W.codeIn K cd_swept_area "swept_area" = true)
    (k_swept_area : PySem.W.keepIn K (.ref f_swept_area) = true)
    (g_gathered : PySem.W.nsIn K mainGlobals "gathered" = some (some (.ref f_gathered)))
    (l_gathered : K.lookup f_gathered = some ⟨oc_gathered, od_gathered, .func (PySem.W.fnOf "gathered" "gathered" (defArgs s_gathered) (defBody s_gathered) (defScope s_gathered) .none kV_gathered dc_gathered pm_gathered an_gathered cd_gathered ct_gathered), sl_gathered⟩)
    (c_gathered : PySem.W.codeIn K cd_gathered "gathered" = true)
    (k_gathered : PySem.W.keepIn K (.ref f_gathered) = true)
    (g_divided : PySem.W.nsIn K mainGlobals "divided" = some (some (.ref f_divided)))
    (l_divided : K.lookup f_divided = some ⟨oc_divided, od_divided, .func (PySem.W.fnOf "divided" "divided" (defArgs s_divided) (defBody s_divided) (defScope s_divided) .none kV_divided dc_divided pm_divided an_divided cd_divided ct_divided), sl_divided⟩)
    (c_divided : PySem.W.codeIn K cd_divided "divided" = true)
    (k_divided : PySem.W.keepIn K (.ref f_divided) = true)
    (g_lowered : PySem.W.nsIn K mainGlobals "lowered" = some (some (.ref f_lowered)))
    (l_lowered : K.lookup f_lowered = some ⟨oc_lowered, od_lowered, .func (PySem.W.fnOf "lowered" "lowered" (defArgs s_lowered) (defBody s_lowered) (defScope s_lowered) .none kV_lowered dc_lowered pm_lowered an_lowered cd_lowered ct_lowered), sl_lowered⟩)
    (c_lowered : PySem.W.codeIn K cd_lowered "lowered" = true)
    (k_lowered : PySem.W.keepIn K (.ref f_lowered) = true)
    (g_swapped : PySem.W.nsIn K mainGlobals "swapped" = some (some (.ref f_swapped)))
    (l_swapped : K.lookup f_swapped = some ⟨oc_swapped, od_swapped, .func (PySem.W.fnOf "swapped" "swapped" (defArgs s_swapped) (defBody s_swapped) (defScope s_swapped) .none kV_swapped dc_swapped pm_swapped an_swapped cd_swapped ct_swapped), sl_swapped⟩)
    (c_swapped : PySem.W.codeIn K cd_swapped "swapped" = true)
    (k_swapped : PySem.W.keepIn K (.ref f_swapped) = true)
    (g_half_of : PySem.W.nsIn K mainGlobals "half_of" = some (some (.ref f_half_of)))
    (l_half_of : K.lookup f_half_of = some ⟨oc_half_of, od_half_of, .func (PySem.W.fnOf "half_of" "half_of" (defArgs s_half_of) (defBody s_half_of) (defScope s_half_of) .none kV_half_of dc_half_of pm_half_of an_half_of cd_half_of ct_half_of), sl_half_of⟩)
    (c_half_of : PySem.W.codeIn K cd_half_of "half_of" = true)
    (k_half_of : PySem.W.keepIn K (.ref f_half_of) = true)
    (g_wheel_of : PySem.W.nsIn K mainGlobals "wheel_of" = some (some (.ref f_wheel_of)))
    (l_wheel_of : K.lookup f_wheel_of = some ⟨oc_wheel_of, od_wheel_of, .func (PySem.W.fnOf "wheel_of" "wheel_of" (defArgs s_wheel_of) (defBody s_wheel_of) (defScope s_wheel_of) .none kV_wheel_of dc_wheel_of pm_wheel_of an_wheel_of cd_wheel_of ct_wheel_of), sl_wheel_of⟩)
    (c_wheel_of : PySem.W.codeIn K cd_wheel_of "wheel_of" = true)
    (k_wheel_of : PySem.W.keepIn K (.ref f_wheel_of) = true)
    (g_l_begin : PySem.W.nsIn K mainGlobals "_law_begin" = some (some (.ref f_l_begin)))
    (l_l_begin : K.lookup f_l_begin = some ⟨oc_l_begin, od_l_begin, .func (PySem.W.fnOf "_law_begin" "_law_begin" (defArgs s_l_begin) (defBody s_l_begin) (defScope s_l_begin) .none kV_l_begin dc_l_begin pm_l_begin an_l_begin cd_l_begin ct_l_begin), sl_l_begin⟩)
    (c_l_begin : PySem.W.codeIn K cd_l_begin "_law_begin" = true)
    (k_l_begin : PySem.W.keepIn K (.ref f_l_begin) = true)
    (g_l_draw : PySem.W.nsIn K mainGlobals "_law_draw" = some (some (.ref f_l_draw)))
    (l_l_draw : K.lookup f_l_draw = some ⟨oc_l_draw, od_l_draw, .func (PySem.W.fnOf "_law_draw" "_law_draw" (defArgs s_l_draw) (defBody s_l_draw) (defScope s_l_draw) .none kV_l_draw dc_l_draw pm_l_draw an_l_draw cd_l_draw ct_l_draw), sl_l_draw⟩)
    (c_l_draw : PySem.W.codeIn K cd_l_draw "_law_draw" = true)
    (k_l_draw : PySem.W.keepIn K (.ref f_l_draw) = true)
    (g_l_pick : PySem.W.nsIn K mainGlobals "_law_pick" = some (some (.ref f_l_pick)))
    (l_l_pick : K.lookup f_l_pick = some ⟨oc_l_pick, od_l_pick, .func (PySem.W.fnOf "_law_pick" "_law_pick" (defArgs s_l_pick) (defBody s_l_pick) (defScope s_l_pick) .none kV_l_pick dc_l_pick pm_l_pick an_l_pick cd_l_pick ct_l_pick), sl_l_pick⟩)
    (c_l_pick : PySem.W.codeIn K cd_l_pick "_law_pick" = true)
    (k_l_pick : PySem.W.keepIn K (.ref f_l_pick) = true)
    (g_l_ten : PySem.W.nsIn K mainGlobals "_law_ten" = some (some (.ref f_l_ten)))
    (l_l_ten : K.lookup f_l_ten = some ⟨oc_l_ten, od_l_ten, .func (PySem.W.fnOf "_law_ten" "_law_ten" (defArgs s_l_ten) (defBody s_l_ten) (defScope s_l_ten) .none kV_l_ten dc_l_ten pm_l_ten an_l_ten cd_l_ten ct_l_ten), sl_l_ten⟩)
    (c_l_ten : PySem.W.codeIn K cd_l_ten "_law_ten" = true)
    (k_l_ten : PySem.W.keepIn K (.ref f_l_ten) = true)
    (g_l_long : PySem.W.nsIn K mainGlobals "_law_long" = some (some (.ref f_l_long)))
    (l_l_long : K.lookup f_l_long = some ⟨oc_l_long, od_l_long, .func (PySem.W.fnOf "_law_long" "_law_long" (defArgs s_l_long) (defBody s_l_long) (defScope s_l_long) .none kV_l_long dc_l_long pm_l_long an_l_long cd_l_long ct_l_long), sl_l_long⟩)
    (c_l_long : PySem.W.codeIn K cd_l_long "_law_long" = true)
    (k_l_long : PySem.W.keepIn K (.ref f_l_long) = true)
    (g_l_size : PySem.W.nsIn K mainGlobals "_law_size" = some (some (.ref f_l_size)))
    (l_l_size : K.lookup f_l_size = some ⟨oc_l_size, od_l_size, .func (PySem.W.fnOf "_law_size" "_law_size" (defArgs s_l_size) (defBody s_l_size) (defScope s_l_size) .none kV_l_size dc_l_size pm_l_size an_l_size cd_l_size ct_l_size), sl_l_size⟩)
    (c_l_size : PySem.W.codeIn K cd_l_size "_law_size" = true)
    (k_l_size : PySem.W.keepIn K (.ref f_l_size) = true)
    (g_l_number : PySem.W.nsIn K mainGlobals "_law_number" = some (some (.ref f_l_number)))
    (l_l_number : K.lookup f_l_number = some ⟨oc_l_number, od_l_number, .func (PySem.W.fnOf "_law_number" "_law_number" (defArgs s_l_number) (defBody s_l_number) (defScope s_l_number) .none kV_l_number dc_l_number pm_l_number an_l_number cd_l_number ct_l_number), sl_l_number⟩)
    (c_l_number : PySem.W.codeIn K cd_l_number "_law_number" = true)
    (k_l_number : PySem.W.keepIn K (.ref f_l_number) = true)
    (g_l_whole_is : PySem.W.nsIn K mainGlobals "_law_whole_is" = some (some (.ref f_l_whole_is)))
    (l_l_whole_is : K.lookup f_l_whole_is = some ⟨oc_l_whole_is, od_l_whole_is, .func (PySem.W.fnOf "_law_whole_is" "_law_whole_is" (defArgs s_l_whole_is) (defBody s_l_whole_is) (defScope s_l_whole_is) .none kV_l_whole_is dc_l_whole_is pm_l_whole_is an_l_whole_is cd_l_whole_is ct_l_whole_is), sl_l_whole_is⟩)
    (c_l_whole_is : PySem.W.codeIn K cd_l_whole_is "_law_whole_is" = true)
    (k_l_whole_is : PySem.W.keepIn K (.ref f_l_whole_is) = true)
    (g_l_truth : PySem.W.nsIn K mainGlobals "_law_truth" = some (some (.ref f_l_truth)))
    (l_l_truth : K.lookup f_l_truth = some ⟨oc_l_truth, od_l_truth, .func (PySem.W.fnOf "_law_truth" "_law_truth" (defArgs s_l_truth) (defBody s_l_truth) (defScope s_l_truth) .none kV_l_truth dc_l_truth pm_l_truth an_l_truth cd_l_truth ct_l_truth), sl_l_truth⟩)
    (c_l_truth : PySem.W.codeIn K cd_l_truth "_law_truth" = true)
    (k_l_truth : PySem.W.keepIn K (.ref f_l_truth) = true)
    (g_l_mul : PySem.W.nsIn K mainGlobals "_law_mul" = some (some (.ref f_l_mul)))
    (l_l_mul : K.lookup f_l_mul = some ⟨oc_l_mul, od_l_mul, .func (PySem.W.fnOf "_law_mul" "_law_mul" (defArgs s_l_mul) (defBody s_l_mul) (defScope s_l_mul) .none kV_l_mul dc_l_mul pm_l_mul an_l_mul cd_l_mul ct_l_mul), sl_l_mul⟩)
    (c_l_mul : PySem.W.codeIn K cd_l_mul "_law_mul" = true)
    (k_l_mul : PySem.W.keepIn K (.ref f_l_mul) = true)
    (g_l_undo : PySem.W.nsIn K mainGlobals "_law_undo" = some (some (.ref f_l_undo)))
    (l_l_undo : K.lookup f_l_undo = some ⟨oc_l_undo, od_l_undo, .func (PySem.W.fnOf "_law_undo" "_law_undo" (defArgs s_l_undo) (defBody s_l_undo) (defScope s_l_undo) .none kV_l_undo dc_l_undo pm_l_undo an_l_undo cd_l_undo ct_l_undo), sl_l_undo⟩)
    (c_l_undo : PySem.W.codeIn K cd_l_undo "_law_undo" = true)
    (k_l_undo : PySem.W.keepIn K (.ref f_l_undo) = true)
    (g_l_pow : PySem.W.nsIn K mainGlobals "_law_pow" = some (some (.ref f_l_pow)))
    (l_l_pow : K.lookup f_l_pow = some ⟨oc_l_pow, od_l_pow, .func (PySem.W.fnOf "_law_pow" "_law_pow" (defArgs s_l_pow) (defBody s_l_pow) (defScope s_l_pow) .none kV_l_pow dc_l_pow pm_l_pow an_l_pow cd_l_pow ct_l_pow), sl_l_pow⟩)
    (c_l_pow : PySem.W.codeIn K cd_l_pow "_law_pow" = true)
    (k_l_pow : PySem.W.keepIn K (.ref f_l_pow) = true)
    (g_l_prod : PySem.W.nsIn K mainGlobals "_law_prod" = some (some (.ref f_l_prod)))
    (l_l_prod : K.lookup f_l_prod = some ⟨oc_l_prod, od_l_prod, .func (PySem.W.fnOf "_law_prod" "_law_prod" (defArgs s_l_prod) (defBody s_l_prod) (defScope s_l_prod) .none kV_l_prod dc_l_prod pm_l_prod an_l_prod cd_l_prod ct_l_prod), sl_l_prod⟩)
    (c_l_prod : PySem.W.codeIn K cd_l_prod "_law_prod" = true)
    (k_l_prod : PySem.W.keepIn K (.ref f_l_prod) = true)
    (g_l_place : PySem.W.nsIn K mainGlobals "_law_place" = some (some (.ref f_l_place)))
    (l_l_place : K.lookup f_l_place = some ⟨oc_l_place, od_l_place, .func (PySem.W.fnOf "_law_place" "_law_place" (defArgs s_l_place) (defBody s_l_place) (defScope s_l_place) .none kV_l_place dc_l_place pm_l_place an_l_place cd_l_place ct_l_place), sl_l_place⟩)
    (c_l_place : PySem.W.codeIn K cd_l_place "_law_place" = true)
    (k_l_place : PySem.W.keepIn K (.ref f_l_place) = true)
    (g_l_row : PySem.W.nsIn K mainGlobals "_law_row" = some (some (.ref f_l_row)))
    (l_l_row : K.lookup f_l_row = some ⟨oc_l_row, od_l_row, .func (PySem.W.fnOf "_law_row" "_law_row" (defArgs s_l_row) (defBody s_l_row) (defScope s_l_row) .none kV_l_row dc_l_row pm_l_row an_l_row cd_l_row ct_l_row), sl_l_row⟩)
    (c_l_row : PySem.W.codeIn K cd_l_row "_law_row" = true)
    (k_l_row : PySem.W.keepIn K (.ref f_l_row) = true)
    (g_l_ledge_right : PySem.W.nsIn K mainGlobals "_law_ledge_right" = some (some (.ref f_l_ledge_right)))
    (l_l_ledge_right : K.lookup f_l_ledge_right = some ⟨oc_l_ledge_right, od_l_ledge_right, .func (PySem.W.fnOf "_law_ledge_right" "_law_ledge_right" (defArgs s_l_ledge_right) (defBody s_l_ledge_right) (defScope s_l_ledge_right) .none kV_l_ledge_right dc_l_ledge_right pm_l_ledge_right an_l_ledge_right cd_l_ledge_right ct_l_ledge_right), sl_l_ledge_right⟩)
    (c_l_ledge_right : PySem.W.codeIn K cd_l_ledge_right "_law_ledge_right" = true)
    (k_l_ledge_right : PySem.W.keepIn K (.ref f_l_ledge_right) = true)
    (g_l_figures : PySem.W.nsIn K mainGlobals "_law_figures" = some (some (.ref f_l_figures)))
    (l_l_figures : K.lookup f_l_figures = some ⟨oc_l_figures, od_l_figures, .func (PySem.W.fnOf "_law_figures" "_law_figures" (defArgs s_l_figures) (defBody s_l_figures) (defScope s_l_figures) .none kV_l_figures dc_l_figures pm_l_figures an_l_figures cd_l_figures ct_l_figures), sl_l_figures⟩)
    (c_l_figures : PySem.W.codeIn K cd_l_figures "_law_figures" = true)
    (k_l_figures : PySem.W.keepIn K (.ref f_l_figures) = true)
    (g_l_brewed : PySem.W.nsIn K mainGlobals "_law_brewed" = some (some (.ref f_l_brewed)))
    (l_l_brewed : K.lookup f_l_brewed = some ⟨oc_l_brewed, od_l_brewed, .func (PySem.W.fnOf "_law_brewed" "_law_brewed" (defArgs s_l_brewed) (defBody s_l_brewed) (defScope s_l_brewed) .none kV_l_brewed dc_l_brewed pm_l_brewed an_l_brewed cd_l_brewed ct_l_brewed), sl_l_brewed⟩)
    (c_l_brewed : PySem.W.codeIn K cd_l_brewed "_law_brewed" = true)
    (k_l_brewed : PySem.W.keepIn K (.ref f_l_brewed) = true)
    (g_l_table_right : PySem.W.nsIn K mainGlobals "_law_table_right" = some (some (.ref f_l_table_right)))
    (l_l_table_right : K.lookup f_l_table_right = some ⟨oc_l_table_right, od_l_table_right, .func (PySem.W.fnOf "_law_table_right" "_law_table_right" (defArgs s_l_table_right) (defBody s_l_table_right) (defScope s_l_table_right) .none kV_l_table_right dc_l_table_right pm_l_table_right an_l_table_right cd_l_table_right ct_l_table_right), sl_l_table_right⟩)
    (c_l_table_right : PySem.W.codeIn K cd_l_table_right "_law_table_right" = true)
    (k_l_table_right : PySem.W.keepIn K (.ref f_l_table_right) = true)
    (g_l_returned_right : PySem.W.nsIn K mainGlobals "_law_returned_right" = some (some (.ref f_l_returned_right)))
    (l_l_returned_right : K.lookup f_l_returned_right = some ⟨oc_l_returned_right, od_l_returned_right, .func (PySem.W.fnOf "_law_returned_right" "_law_returned_right" (defArgs s_l_returned_right) (defBody s_l_returned_right) (defScope s_l_returned_right) .none kV_l_returned_right dc_l_returned_right pm_l_returned_right an_l_returned_right cd_l_returned_right ct_l_returned_right), sl_l_returned_right⟩)
    (c_l_returned_right : PySem.W.codeIn K cd_l_returned_right "_law_returned_right" = true)
    (k_l_returned_right : PySem.W.keepIn K (.ref f_l_returned_right) = true)
    (g_l_made : PySem.W.nsIn K mainGlobals "_law_made" = some (some (.ref f_l_made)))
    (l_l_made : K.lookup f_l_made = some ⟨oc_l_made, od_l_made, .func (PySem.W.fnOf "_law_made" "_law_made" (defArgs s_l_made) (defBody s_l_made) (defScope s_l_made) .none kV_l_made dc_l_made pm_l_made an_l_made cd_l_made ct_l_made), sl_l_made⟩)
    (c_l_made : PySem.W.codeIn K cd_l_made "_law_made" = true)
    (k_l_made : PySem.W.keepIn K (.ref f_l_made) = true)
    (g_l_round : PySem.W.nsIn K mainGlobals "_law_round" = some (some (.ref f_l_round)))
    (l_l_round : K.lookup f_l_round = some ⟨oc_l_round, od_l_round, .func (PySem.W.fnOf "_law_round" "_law_round" (defArgs s_l_round) (defBody s_l_round) (defScope s_l_round) .none kV_l_round dc_l_round pm_l_round an_l_round cd_l_round ct_l_round), sl_l_round⟩)
    (c_l_round : PySem.W.codeIn K cd_l_round "_law_round" = true)
    (k_l_round : PySem.W.keepIn K (.ref f_l_round) = true)
    (g_l_shuffled : PySem.W.nsIn K mainGlobals "_law_shuffled" = some (some (.ref f_l_shuffled)))
    (l_l_shuffled : K.lookup f_l_shuffled = some ⟨oc_l_shuffled, od_l_shuffled, .func (PySem.W.fnOf "_law_shuffled" "_law_shuffled" (defArgs s_l_shuffled) (defBody s_l_shuffled) (defScope s_l_shuffled) .none kV_l_shuffled dc_l_shuffled pm_l_shuffled an_l_shuffled cd_l_shuffled ct_l_shuffled), sl_l_shuffled⟩)
    (c_l_shuffled : PySem.W.codeIn K cd_l_shuffled "_law_shuffled" = true)
    (k_l_shuffled : PySem.W.keepIn K (.ref f_l_shuffled) = true)
    (g_l_far_right : PySem.W.nsIn K mainGlobals "_law_far_right" = some (some (.ref f_l_far_right)))
    (l_l_far_right : K.lookup f_l_far_right = some ⟨oc_l_far_right, od_l_far_right, .func (PySem.W.fnOf "_law_far_right" "_law_far_right" (defArgs s_l_far_right) (defBody s_l_far_right) (defScope s_l_far_right) .none kV_l_far_right dc_l_far_right pm_l_far_right an_l_far_right cd_l_far_right ct_l_far_right), sl_l_far_right⟩)
    (c_l_far_right : PySem.W.codeIn K cd_l_far_right "_law_far_right" = true)
    (k_l_far_right : PySem.W.keepIn K (.ref f_l_far_right) = true)
    (g_l_ring_right : PySem.W.nsIn K mainGlobals "_law_ring_right" = some (some (.ref f_l_ring_right)))
    (l_l_ring_right : K.lookup f_l_ring_right = some ⟨oc_l_ring_right, od_l_ring_right, .func (PySem.W.fnOf "_law_ring_right" "_law_ring_right" (defArgs s_l_ring_right) (defBody s_l_ring_right) (defScope s_l_ring_right) .none kV_l_ring_right dc_l_ring_right pm_l_ring_right an_l_ring_right cd_l_ring_right ct_l_ring_right), sl_l_ring_right⟩)
    (c_l_ring_right : PySem.W.codeIn K cd_l_ring_right "_law_ring_right" = true)
    (k_l_ring_right : PySem.W.keepIn K (.ref f_l_ring_right) = true)
    (g_law : PySem.W.nsIn K mainGlobals "law" = some (some (.ref f_law)))
    (l_law : K.lookup f_law = some ⟨oc_law, od_law, .func (PySem.W.fnOf "law" "law" (defArgs s_law) (defBody s_law) (defScope s_law) .none kV_law dc_law pm_law an_law cd_law ct_law), sl_law⟩)
    (c_law : PySem.W.codeIn K cd_law "law" = true)
    (k_law : PySem.W.keepIn K (.ref f_law) = true)
    (g_C_BadNumber : PySem.W.nsIn K mainGlobals "BadNumber" = some (some (.ref C_BadNumber)))
    (m_BadNumber_init : PySem.W.findIn K (.ref C_BadNumber) "__init__" = some (some (.ref f_BadNumber_init)))
    (i_BadNumber_init : PySem.W.isFn K (.ref f_BadNumber_init) = true)
    (l_BadNumber_init : K.lookup f_BadNumber_init = some ⟨oc_BadNumber_init, od_BadNumber_init, .func (PySem.W.fnOf "__init__" "BadNumber.__init__" (defArgs s_BadNumber_init) (defBody s_BadNumber_init) (defScope s_BadNumber_init) .none kV_BadNumber_init dc_BadNumber_init pm_BadNumber_init an_BadNumber_init cd_BadNumber_init ct_BadNumber_init), sl_BadNumber_init⟩)
    (c_BadNumber_init : PySem.W.codeIn K cd_BadNumber_init "BadNumber.__init__" = true)
    (k_BadNumber_init : PySem.W.keepIn K (.ref f_BadNumber_init) = true)
    (sa_BadNumber : PySem.W.findIn K (.ref C_BadNumber) "__setattr__" = some (some (.builtin "object.__setattr__")))
    (ex_BadNumber : PySem.W.subIn K (.ref C_BadNumber) (.type "BaseException") = some true)
    (ty_BadNumber : PySem.W.typeIn K (.ref C_BadNumber) = some (.type "type"))
    (kc_BadNumber : PySem.W.keepIn K (.ref C_BadNumber) = true)
    (x_BadNumber : K.lookup C_BadNumber = some (excClassObj nm_BadNumber qn_BadNumber C_BadNumber NN_BadNumber bs_BadNumber [.ref C_WalkError, .type "ValueError", .type "Exception", .type "BaseException", .type "object"] true sn_BadNumber sb_BadNumber ab_BadNumber co_BadNumber dd_BadNumber m0_BadNumber m1_BadNumber m2_BadNumber m3_BadNumber m5_BadNumber "ValueError.__new__"))
    (na_BadNumber_value : PySem.W.findIn K (.ref C_BadNumber) "value" = some none)
    (g_C_BadPlace : PySem.W.nsIn K mainGlobals "BadPlace" = some (some (.ref C_BadPlace)))
    (m_BadPlace_init : PySem.W.findIn K (.ref C_BadPlace) "__init__" = some (some (.ref f_BadPlace_init)))
    (i_BadPlace_init : PySem.W.isFn K (.ref f_BadPlace_init) = true)
    (l_BadPlace_init : K.lookup f_BadPlace_init = some ⟨oc_BadPlace_init, od_BadPlace_init, .func (PySem.W.fnOf "__init__" "BadPlace.__init__" (defArgs s_BadPlace_init) (defBody s_BadPlace_init) (defScope s_BadPlace_init) .none kV_BadPlace_init dc_BadPlace_init pm_BadPlace_init an_BadPlace_init cd_BadPlace_init ct_BadPlace_init), sl_BadPlace_init⟩)
    (c_BadPlace_init : PySem.W.codeIn K cd_BadPlace_init "BadPlace.__init__" = true)
    (k_BadPlace_init : PySem.W.keepIn K (.ref f_BadPlace_init) = true)
    (sa_BadPlace : PySem.W.findIn K (.ref C_BadPlace) "__setattr__" = some (some (.builtin "object.__setattr__")))
    (ex_BadPlace : PySem.W.subIn K (.ref C_BadPlace) (.type "BaseException") = some true)
    (ty_BadPlace : PySem.W.typeIn K (.ref C_BadPlace) = some (.type "type"))
    (kc_BadPlace : PySem.W.keepIn K (.ref C_BadPlace) = true)
    (x_BadPlace : K.lookup C_BadPlace = some (excClassObj nm_BadPlace qn_BadPlace C_BadPlace NN_BadPlace bs_BadPlace [.ref C_WalkError, .type "ValueError", .type "Exception", .type "BaseException", .type "object"] true sn_BadPlace sb_BadPlace ab_BadPlace co_BadPlace dd_BadPlace m0_BadPlace m1_BadPlace m2_BadPlace m3_BadPlace m5_BadPlace "ValueError.__new__"))
    (na_BadPlace_value : PySem.W.findIn K (.ref C_BadPlace) "value" = some none)
    (g_C_Place : PySem.W.nsIn K mainGlobals "Place" = some (some (.ref C_Place)))
    (pg_Place : PySem.W.plainGet K C_Place Str.empty = true)
    (hd_Place : PySem.W.hasDictIn K C_Place = true)
    (po_Place : PySem.W.plainOver K C_Place = true)
    (sa_Place : PySem.W.findIn K (.ref C_Place) "__setattr__" = some (some (.builtin "object.__setattr__")))
    (ca_Place : PySem.W.findIn K (.ref C_Place) "__class__" = some (some (.builtin "object.__class__")))
    (cm_Place : PySem.W.mroIn K C_Place (.type "object") = some true)
    (na_Place_x : PySem.W.findIn K (.ref C_Place) "x" = some none)
    (na_Place_y : PySem.W.findIn K (.ref C_Place) "y" = some none)
    (na_Place_area : PySem.W.findIn K (.ref C_Place) "area" = some none)
    (m_Place_init : PySem.W.findIn K (.ref C_Place) "__init__" = some (some (.ref f_Place_init)))
    (i_Place_init : PySem.W.isFn K (.ref f_Place_init) = true)
    (l_Place_init : K.lookup f_Place_init = some ⟨oc_Place_init, od_Place_init, .func (PySem.W.fnOf "__init__" "Place.__init__" (defArgs s_Place_init) (defBody s_Place_init) (defScope s_Place_init) .none kV_Place_init dc_Place_init pm_Place_init an_Place_init cd_Place_init ct_Place_init), sl_Place_init⟩)
    (c_Place_init : PySem.W.codeIn K cd_Place_init "Place.__init__" = true)
    (k_Place_init : PySem.W.keepIn K (.ref f_Place_init) = true)
    (mk_Place : PySem.W.makesIn K C_Place = true)
    (kc_Place : PySem.W.keepIn K (.ref C_Place) = true)
    (m_Place_eq : PySem.W.findIn K (.ref C_Place) "__eq__" = some (some (.ref f_Place_eq)))
    (i_Place_eq : PySem.W.isFn K (.ref f_Place_eq) = true)
    (l_Place_eq : K.lookup f_Place_eq = some ⟨oc_Place_eq, od_Place_eq, .func (PySem.W.fnOf "__eq__" "Place.__eq__" (defArgs s_Place_eq) (defBody s_Place_eq) (defScope s_Place_eq) .none kV_Place_eq dc_Place_eq pm_Place_eq an_Place_eq cd_Place_eq ct_Place_eq), sl_Place_eq⟩)
    (c_Place_eq : PySem.W.codeIn K cd_Place_eq "Place.__eq__" = true)
    (k_Place_eq : PySem.W.keepIn K (.ref f_Place_eq) = true)
    (ne_Place : PySem.W.findIn K (.ref C_Place) "__ne__" = some (some (.builtin "object.__ne__")))
    (m_Place_mul : PySem.W.findIn K (.ref C_Place) "__mul__" = some (some (.ref f_Place_mul)))
    (i_Place_mul : PySem.W.isFn K (.ref f_Place_mul) = true)
    (l_Place_mul : K.lookup f_Place_mul = some ⟨oc_Place_mul, od_Place_mul, .func (PySem.W.fnOf "__mul__" "Place.__mul__" (defArgs s_Place_mul) (defBody s_Place_mul) (defScope s_Place_mul) .none kV_Place_mul dc_Place_mul pm_Place_mul an_Place_mul cd_Place_mul ct_Place_mul), sl_Place_mul⟩)
    (c_Place_mul : PySem.W.codeIn K cd_Place_mul "Place.__mul__" = true)
    (k_Place_mul : PySem.W.keepIn K (.ref f_Place_mul) = true)
    (sf_Place_Mult : PySem.W.selfFirst K C_Place = true)
    (ro_Place_Mult : PySem.W.findIn K (.ref C_Place) (PySem.dunderR (Operator.info .Mult).2) = some none)
    (m_Place_power : PySem.W.findIn K (.ref C_Place) "power" = some (some (.ref f_Place_power)))
    (i_Place_power : PySem.W.isFn K (.ref f_Place_power) = true)
    (l_Place_power : K.lookup f_Place_power = some ⟨oc_Place_power, od_Place_power, .func (PySem.W.fnOf "power" "Place.power" (defArgs s_Place_power) (defBody s_Place_power) (defScope s_Place_power) .none kV_Place_power dc_Place_power pm_Place_power an_Place_power cd_Place_power ct_Place_power), sl_Place_power⟩)
    (c_Place_power : PySem.W.codeIn K cd_Place_power "Place.power" = true)
    (k_Place_power : PySem.W.keepIn K (.ref f_Place_power) = true)
    (m_Place_twist : PySem.W.findIn K (.ref C_Place) "twist" = some (some (.ref f_Place_twist)))
    (i_Place_twist : PySem.W.isFn K (.ref f_Place_twist) = true)
    (l_Place_twist : K.lookup f_Place_twist = some ⟨oc_Place_twist, od_Place_twist, .func (PySem.W.fnOf "twist" "Place.twist" (defArgs s_Place_twist) (defBody s_Place_twist) (defScope s_Place_twist) .none kV_Place_twist dc_Place_twist pm_Place_twist an_Place_twist cd_Place_twist ct_Place_twist), sl_Place_twist⟩)
    (c_Place_twist : PySem.W.codeIn K cd_Place_twist "Place.twist" = true)
    (k_Place_twist : PySem.W.keepIn K (.ref f_Place_twist) = true)
    (g_C_Brew : PySem.W.nsIn K mainGlobals "Brew" = some (some (.ref C_Brew)))
    (pg_Brew : PySem.W.plainGet K C_Brew Str.empty = true)
    (hd_Brew : PySem.W.hasDictIn K C_Brew = true)
    (po_Brew : PySem.W.plainOver K C_Brew = true)
    (sa_Brew : PySem.W.findIn K (.ref C_Brew) "__setattr__" = some (some (.builtin "object.__setattr__")))
    (na_Brew_places : PySem.W.findIn K (.ref C_Brew) "places" = some none)
    (na_Brew_lines : PySem.W.findIn K (.ref C_Brew) "lines" = some none)
    (m_Brew_init : PySem.W.findIn K (.ref C_Brew) "__init__" = some (some (.ref f_Brew_init)))
    (i_Brew_init : PySem.W.isFn K (.ref f_Brew_init) = true)
    (l_Brew_init : K.lookup f_Brew_init = some ⟨oc_Brew_init, od_Brew_init, .func (PySem.W.fnOf "__init__" "Brew.__init__" (defArgs s_Brew_init) (defBody s_Brew_init) (defScope s_Brew_init) .none kV_Brew_init dc_Brew_init pm_Brew_init an_Brew_init cd_Brew_init ct_Brew_init), sl_Brew_init⟩)
    (c_Brew_init : PySem.W.codeIn K cd_Brew_init "Brew.__init__" = true)
    (k_Brew_init : PySem.W.keepIn K (.ref f_Brew_init) = true)
    (mk_Brew : PySem.W.makesIn K C_Brew = true)
    (kc_Brew : PySem.W.keepIn K (.ref C_Brew) = true)
    (m_Brew_add_line : PySem.W.findIn K (.ref C_Brew) "add_line" = some (some (.ref f_Brew_add_line)))
    (i_Brew_add_line : PySem.W.isFn K (.ref f_Brew_add_line) = true)
    (l_Brew_add_line : K.lookup f_Brew_add_line = some ⟨oc_Brew_add_line, od_Brew_add_line, .func (PySem.W.fnOf "add_line" "Brew.add_line" (defArgs s_Brew_add_line) (defBody s_Brew_add_line) (defScope s_Brew_add_line) .none kV_Brew_add_line dc_Brew_add_line pm_Brew_add_line an_Brew_add_line cd_Brew_add_line ct_Brew_add_line), sl_Brew_add_line⟩)
    (c_Brew_add_line : PySem.W.codeIn K cd_Brew_add_line "Brew.add_line" = true)
    (k_Brew_add_line : PySem.W.keepIn K (.ref f_Brew_add_line) = true)
    (g_C_Table : PySem.W.nsIn K mainGlobals "Table" = some (some (.ref C_Table)))
    (pg_Table : PySem.W.plainGet K C_Table Str.empty = true)
    (hd_Table : PySem.W.hasDictIn K C_Table = true)
    (po_Table : PySem.W.plainOver K C_Table = true)
    (sa_Table : PySem.W.findIn K (.ref C_Table) "__setattr__" = some (some (.builtin "object.__setattr__")))
    (ca_Table : PySem.W.findIn K (.ref C_Table) "__class__" = some (some (.builtin "object.__class__")))
    (cm_Table : PySem.W.mroIn K C_Table (.type "object") = some true)
    (na_Table_told : PySem.W.findIn K (.ref C_Table) "told" = some none)
    (na_Table_ledge : PySem.W.findIn K (.ref C_Table) "ledge" = some none)
    (na_Table_home : PySem.W.findIn K (.ref C_Table) "home" = some none)
    (na_Table_recipe : PySem.W.findIn K (.ref C_Table) "recipe" = some none)
    (na_Table_made : PySem.W.findIn K (.ref C_Table) "made" = some none)
    (m_Table_init : PySem.W.findIn K (.ref C_Table) "__init__" = some (some (.ref f_Table_init)))
    (i_Table_init : PySem.W.isFn K (.ref f_Table_init) = true)
    (l_Table_init : K.lookup f_Table_init = some ⟨oc_Table_init, od_Table_init, .func (PySem.W.fnOf "__init__" "Table.__init__" (defArgs s_Table_init) (defBody s_Table_init) (defScope s_Table_init) .none kV_Table_init dc_Table_init pm_Table_init an_Table_init cd_Table_init ct_Table_init), sl_Table_init⟩)
    (c_Table_init : PySem.W.codeIn K cd_Table_init "Table.__init__" = true)
    (k_Table_init : PySem.W.keepIn K (.ref f_Table_init) = true)
    (mk_Table : PySem.W.makesIn K C_Table = true)
    (kc_Table : PySem.W.keepIn K (.ref C_Table) = true)
    (m_Table_eq : PySem.W.findIn K (.ref C_Table) "__eq__" = some (some (.ref f_Table_eq)))
    (i_Table_eq : PySem.W.isFn K (.ref f_Table_eq) = true)
    (l_Table_eq : K.lookup f_Table_eq = some ⟨oc_Table_eq, od_Table_eq, .func (PySem.W.fnOf "__eq__" "Table.__eq__" (defArgs s_Table_eq) (defBody s_Table_eq) (defScope s_Table_eq) .none kV_Table_eq dc_Table_eq pm_Table_eq an_Table_eq cd_Table_eq ct_Table_eq), sl_Table_eq⟩)
    (c_Table_eq : PySem.W.codeIn K cd_Table_eq "Table.__eq__" = true)
    (k_Table_eq : PySem.W.keepIn K (.ref f_Table_eq) = true)
    (ne_Table : PySem.W.findIn K (.ref C_Table) "__ne__" = some (some (.builtin "object.__ne__")))
    (m_Table_contains : PySem.W.findIn K (.ref C_Table) "__contains__" = some (some (.ref f_Table_contains)))
    (i_Table_contains : PySem.W.isFn K (.ref f_Table_contains) = true)
    (l_Table_contains : K.lookup f_Table_contains = some ⟨oc_Table_contains, od_Table_contains, .func (PySem.W.fnOf "__contains__" "Table.__contains__" (defArgs s_Table_contains) (defBody s_Table_contains) (defScope s_Table_contains) .none kV_Table_contains dc_Table_contains pm_Table_contains an_Table_contains cd_Table_contains ct_Table_contains), sl_Table_contains⟩)
    (c_Table_contains : PySem.W.codeIn K cd_Table_contains "Table.__contains__" = true)
    (k_Table_contains : PySem.W.keepIn K (.ref f_Table_contains) = true)
    (g_C_Forward : PySem.W.nsIn K mainGlobals "Forward" = some (some (.ref C_Forward)))
    (pg_Forward : PySem.W.plainGet K C_Forward Str.empty = true)
    (hd_Forward : PySem.W.hasDictIn K C_Forward = true)
    (po_Forward : PySem.W.plainOver K C_Forward = true)
    (sa_Forward : PySem.W.findIn K (.ref C_Forward) "__setattr__" = some (some (.builtin "object.__setattr__")))
    (na_Forward_whole : PySem.W.findIn K (.ref C_Forward) "whole" = some none)
    (na_Forward_told : PySem.W.findIn K (.ref C_Forward) "told" = some none)
    (na_Forward_half : PySem.W.findIn K (.ref C_Forward) "half" = some none)
    (na_Forward_around : PySem.W.findIn K (.ref C_Forward) "around" = some none)
    (na_Forward_wheel : PySem.W.findIn K (.ref C_Forward) "wheel" = some none)
    (m_Forward_init : PySem.W.findIn K (.ref C_Forward) "__init__" = some (some (.ref f_Forward_init)))
    (i_Forward_init : PySem.W.isFn K (.ref f_Forward_init) = true)
    (l_Forward_init : K.lookup f_Forward_init = some ⟨oc_Forward_init, od_Forward_init, .func (PySem.W.fnOf "__init__" "Forward.__init__" (defArgs s_Forward_init) (defBody s_Forward_init) (defScope s_Forward_init) .none kV_Forward_init dc_Forward_init pm_Forward_init an_Forward_init cd_Forward_init ct_Forward_init), sl_Forward_init⟩)
    (c_Forward_init : PySem.W.codeIn K cd_Forward_init "Forward.__init__" = true)
    (k_Forward_init : PySem.W.keepIn K (.ref f_Forward_init) = true)
    (mk_Forward : PySem.W.makesIn K C_Forward = true)
    (kc_Forward : PySem.W.keepIn K (.ref C_Forward) = true)
    (m_Forward_table : PySem.W.findIn K (.ref C_Forward) "table" = some (some (.ref f_Forward_table)))
    (i_Forward_table : PySem.W.isFn K (.ref f_Forward_table) = true)
    (l_Forward_table : K.lookup f_Forward_table = some ⟨oc_Forward_table, od_Forward_table, .func (PySem.W.fnOf "table" "Forward.table" (defArgs s_Forward_table) (defBody s_Forward_table) (defScope s_Forward_table) .none kV_Forward_table dc_Forward_table pm_Forward_table an_Forward_table cd_Forward_table ct_Forward_table), sl_Forward_table⟩)
    (c_Forward_table : PySem.W.codeIn K cd_Forward_table "Forward.table" = true)
    (k_Forward_table : PySem.W.keepIn K (.ref f_Forward_table) = true)
    (m_Forward_has : PySem.W.findIn K (.ref C_Forward) "has" = some (some (.ref f_Forward_has)))
    (i_Forward_has : PySem.W.isFn K (.ref f_Forward_has) = true)
    (l_Forward_has : K.lookup f_Forward_has = some ⟨oc_Forward_has, od_Forward_has, .func (PySem.W.fnOf "has" "Forward.has" (defArgs s_Forward_has) (defBody s_Forward_has) (defScope s_Forward_has) .none kV_Forward_has dc_Forward_has pm_Forward_has an_Forward_has cd_Forward_has ct_Forward_has), sl_Forward_has⟩)
    (c_Forward_has : PySem.W.codeIn K cd_Forward_has "Forward.has" = true)
    (k_Forward_has : PySem.W.keepIn K (.ref f_Forward_has) = true)
    (m_Forward_check_reach : PySem.W.findIn K (.ref C_Forward) "check_reach" = some (some (.ref f_Forward_check_reach)))
    (i_Forward_check_reach : PySem.W.isFn K (.ref f_Forward_check_reach) = true)
    (l_Forward_check_reach : K.lookup f_Forward_check_reach = some ⟨oc_Forward_check_reach, od_Forward_check_reach, .func (PySem.W.fnOf "check_reach" "Forward.check_reach" (defArgs s_Forward_check_reach) (defBody s_Forward_check_reach) (defScope s_Forward_check_reach) .none kV_Forward_check_reach dc_Forward_check_reach pm_Forward_check_reach an_Forward_check_reach cd_Forward_check_reach ct_Forward_check_reach), sl_Forward_check_reach⟩)
    (c_Forward_check_reach : PySem.W.codeIn K cd_Forward_check_reach "Forward.check_reach" = true)
    (k_Forward_check_reach : PySem.W.keepIn K (.ref f_Forward_check_reach) = true)
    (cn : PySem.W.specialIn K (.builtin "object.__class__") "__get__" = some (some (.builtin "getset_descriptor.__get__")))
    (ct : PySem.W.takesIn K (.builtin "object.__class__") = some true)
    (io_Place_int : PySem.W.kitOne K (.ref C_Place) (.type "int") = some false)
    (io_Place_bool : PySem.W.kitOne K (.ref C_Place) (.type "bool") = some false)
    (is_NoneType_Place : PySem.W.kitOne K (.type "NoneType") (.ref C_Place) = some false)
    (is_bool_Place : PySem.W.kitOne K (.type "bool") (.ref C_Place) = some false)
    (is_int_Place : PySem.W.kitOne K (.type "int") (.ref C_Place) = some false)
    (is_str_Place : PySem.W.kitOne K (.type "str") (.ref C_Place) = some false)
    (is_list_Place : PySem.W.kitOne K (.type "list") (.ref C_Place) = some false)
    (is_tuple_Place : PySem.W.kitOne K (.type "tuple") (.ref C_Place) = some false)
    (is_dict_Place : PySem.W.kitOne K (.type "dict") (.ref C_Place) = some false)
    (n_all : PySem.W.nsIn K mainGlobals "all" = some none)
    (n_bool : PySem.W.nsIn K mainGlobals "bool" = some none)
    (n_enumerate : PySem.W.nsIn K mainGlobals "enumerate" = some none)
    (n_int : PySem.W.nsIn K mainGlobals "int" = some none)
    (n_isinstance : PySem.W.nsIn K mainGlobals "isinstance" = some none)
    (n_len : PySem.W.nsIn K mainGlobals "len" = some none)
    (n_list : PySem.W.nsIn K mainGlobals "list" = some none)
    (n_max : PySem.W.nsIn K mainGlobals "max" = some none)
    (n_min : PySem.W.nsIn K mainGlobals "min" = some none)
    (n_range : PySem.W.nsIn K mainGlobals "range" = some none)
    (n_tuple : PySem.W.nsIn K mainGlobals "tuple" = some none)
    (n_zip : PySem.W.nsIn K mainGlobals "zip" = some none)
    (gc_MOST_TOLD : PySem.W.nsIn K mainGlobals "MOST_TOLD" = some (some (.int 8 tk_MOST_TOLD)))
    (mi_gcd : PySem.W.nsIn K mainGlobals "gcd" = some (some (.builtin "math.gcd"))) {goal : Prop} (kk : ∀ T : Tx K mg, T.a_law = fa → goal) : goal := by
  refine kk { a_is_integer := (f_is_integer), d_is_integer := (_), F_is_integer := (fun_mk (st := s_is_integer) l_is_integer c_is_integer k_is_integer), b_is_integer := ((fun_mk (st := s_is_integer) l_is_integer c_is_integer k_is_integer).binds (ps := P_is_integer) fun _ _ _ _ _ _ us hl => match us, hl with | [_], _ => rfl), g_is_integer := (PySem.W.mg_of X G g_is_integer), a_check_integer := (f_check_integer), d_check_integer := (_), F_check_integer := (fun_mk (st := s_check_integer) l_check_integer c_check_integer k_check_integer), b_check_integer := ((fun_mk (st := s_check_integer) l_check_integer c_check_integer k_check_integer).binds (ps := P_check_integer) fun _ _ _ _ _ _ us hl => match us, hl with | [_], _ => rfl), g_check_integer := (PySem.W.mg_of X G g_check_integer), a_check_place := (f_check_place), d_check_place := (_), F_check_place := (fun_mk (st := s_check_place) l_check_place c_check_place k_check_place), b_check_place := ((fun_mk (st := s_check_place) l_check_place c_check_place k_check_place).binds (ps := P_check_place) fun _ _ _ _ _ _ us hl => match us, hl with | [_], _ => rfl), g_check_place := (PySem.W.mg_of X G g_check_place), a_check_places := (f_check_places), d_check_places := (_), F_check_places := (fun_mk (st := s_check_places) l_check_places c_check_places k_check_places), b_check_places := ((fun_mk (st := s_check_places) l_check_places c_check_places k_check_places).binds (ps := P_check_places) fun _ _ _ _ _ _ us hl => match us, hl with | [_], _ => rfl), g_check_places := (PySem.W.mg_of X G g_check_places), a_home_place := (f_home_place), d_home_place := (_), F_home_place := (fun_mk (st := s_home_place) l_home_place c_home_place k_home_place), b_home_place := ((fun_mk (st := s_home_place) l_home_place c_home_place k_home_place).binds (ps := P_home_place) fun _ _ _ _ _ _ us hl => match us, hl with | [], _ => rfl), g_home_place := (PySem.W.mg_of X G g_home_place), a_is_multiple := (f_is_multiple), d_is_multiple := (_), F_is_multiple := (fun_mk (st := s_is_multiple) l_is_multiple c_is_multiple k_is_multiple), b_is_multiple := ((fun_mk (st := s_is_multiple) l_is_multiple c_is_multiple k_is_multiple).binds (ps := P_is_multiple) fun _ _ _ _ _ _ us hl => match us, hl with | [_, _], _ => rfl), g_is_multiple := (PySem.W.mg_of X G g_is_multiple), a_form_value := (f_form_value), d_form_value := (_), F_form_value := (fun_mk (st := s_form_value) l_form_value c_form_value k_form_value), b_form_value := ((fun_mk (st := s_form_value) l_form_value c_form_value k_form_value).binds (ps := P_form_value) fun _ _ _ _ _ _ us hl => match us, hl with | [_, _], _ => rfl), g_form_value := (PySem.W.mg_of X G g_form_value), a_bezout := (f_bezout), d_bezout := (_), F_bezout := (fun_mk (st := s_bezout) l_bezout c_bezout k_bezout), b_bezout := ((fun_mk (st := s_bezout) l_bezout c_bezout k_bezout).binds (ps := P_bezout) fun _ _ _ _ _ _ us hl => match us, hl with | [_, _], _ => rfl), g_bezout := (PySem.W.mg_of X G g_bezout), a_ledge_forms := (f_ledge_forms), d_ledge_forms := (_), F_ledge_forms := (fun_mk (st := s_ledge_forms) l_ledge_forms c_ledge_forms k_ledge_forms), b_ledge_forms := ((fun_mk (st := s_ledge_forms) l_ledge_forms c_ledge_forms k_ledge_forms).binds (ps := P_ledge_forms) fun _ _ _ _ _ _ us hl => match us, hl with | [_], _ => rfl), g_ledge_forms := (PySem.W.mg_of X G g_ledge_forms), a_failed_form := (f_failed_form), d_failed_form := (_), F_failed_form := (fun_mk (st := s_failed_form) l_failed_form c_failed_form k_failed_form), b_failed_form := ((fun_mk (st := s_failed_form) l_failed_form c_failed_form k_failed_form).binds (ps := P_failed_form) fun _ _ _ _ _ _ us hl => match us, hl with | [_, _], _ => rfl), g_failed_form := (PySem.W.mg_of X G g_failed_form), a_end_powers := (f_end_powers), d_end_powers := (_), F_end_powers := (fun_mk (st := s_end_powers) l_end_powers c_end_powers k_end_powers), b_end_powers := ((fun_mk (st := s_end_powers) l_end_powers c_end_powers k_end_powers).binds (ps := P_end_powers) fun _ _ _ _ _ _ us hl => match us, hl with | [_, _], _ => rfl), g_end_powers := (PySem.W.mg_of X G g_end_powers), a_ledge_product := (f_ledge_product), d_ledge_product := (_), F_ledge_product := (fun_mk (st := s_ledge_product) l_ledge_product c_ledge_product k_ledge_product), b_ledge_product := ((fun_mk (st := s_ledge_product) l_ledge_product c_ledge_product k_ledge_product).binds (ps := P_ledge_product) fun _ _ _ _ _ _ us hl => match us, hl with | [_, _], _ => rfl), g_ledge_product := (PySem.W.mg_of X G g_ledge_product), a_height_over := (f_height_over), d_height_over := (_), F_height_over := (fun_mk (st := s_height_over) l_height_over c_height_over k_height_over), b_height_over := ((fun_mk (st := s_height_over) l_height_over c_height_over k_height_over).binds (ps := P_height_over) fun _ _ _ _ _ _ us hl => match us, hl with | [_, _], _ => rfl), g_height_over := (PySem.W.mg_of X G g_height_over), a_is_made := (f_is_made), d_is_made := (_), F_is_made := (fun_mk (st := s_is_made) l_is_made c_is_made k_is_made), b_is_made := ((fun_mk (st := s_is_made) l_is_made c_is_made k_is_made).binds (ps := P_is_made) fun _ _ _ _ _ _ us hl => match us, hl with | [_, _, _], _ => rfl), g_is_made := (PySem.W.mg_of X G g_is_made), a_made_numbers := (f_made_numbers), d_made_numbers := (_), F_made_numbers := (fun_mk (st := s_made_numbers) l_made_numbers c_made_numbers k_made_numbers), b_made_numbers := ((fun_mk (st := s_made_numbers) l_made_numbers c_made_numbers k_made_numbers).binds (ps := P_made_numbers) fun _ _ _ _ _ _ us hl => match us, hl with | [_, _], _ => rfl), g_made_numbers := (PySem.W.mg_of X G g_made_numbers), a_end_x := (f_end_x), d_end_x := (_), F_end_x := (fun_mk (st := s_end_x) l_end_x c_end_x k_end_x), b_end_x := ((fun_mk (st := s_end_x) l_end_x c_end_x k_end_x).binds (ps := P_end_x) fun _ _ _ _ _ _ us hl => match us, hl with | [_], _ => rfl), g_end_x := (PySem.W.mg_of X G g_end_x), a_end_y := (f_end_y), d_end_y := (_), F_end_y := (fun_mk (st := s_end_y) l_end_y c_end_y k_end_y), b_end_y := ((fun_mk (st := s_end_y) l_end_y c_end_y k_end_y).binds (ps := P_end_y) fun _ _ _ _ _ _ us hl => match us, hl with | [_], _ => rfl), g_end_y := (PySem.W.mg_of X G g_end_y), a_swept_area := (f_swept_area), d_swept_area := (_), F_swept_area := (fun_mk (st := s_swept_area) l_swept_area c_swept_area k_swept_area), b_swept_area := ((fun_mk (st := s_swept_area) l_swept_area c_swept_area k_swept_area).binds (ps := P_swept_area) fun _ _ _ _ _ _ us hl => match us, hl with | [_], _ => rfl), g_swept_area := (PySem.W.mg_of X G g_swept_area), a_gathered := (f_gathered), d_gathered := (_), F_gathered := (fun_mk (st := s_gathered) l_gathered c_gathered k_gathered), b_gathered := ((fun_mk (st := s_gathered) l_gathered c_gathered k_gathered).binds (ps := P_gathered) fun _ _ _ _ _ _ us hl => match us, hl with | [_, _, _], _ => rfl), g_gathered := (PySem.W.mg_of X G g_gathered), a_divided := (f_divided), d_divided := (_), F_divided := (fun_mk (st := s_divided) l_divided c_divided k_divided), b_divided := ((fun_mk (st := s_divided) l_divided c_divided k_divided).binds (ps := P_divided) fun _ _ _ _ _ _ us hl => match us, hl with | [_, _, _, _], _ => rfl), g_divided := (PySem.W.mg_of X G g_divided), a_lowered := (f_lowered), d_lowered := (_), F_lowered := (fun_mk (st := s_lowered) l_lowered c_lowered k_lowered), b_lowered := ((fun_mk (st := s_lowered) l_lowered c_lowered k_lowered).binds (ps := P_lowered) fun _ _ _ _ _ _ us hl => match us, hl with | [_, _, _, _], _ => rfl), g_lowered := (PySem.W.mg_of X G g_lowered), a_swapped := (f_swapped), d_swapped := (_), F_swapped := (fun_mk (st := s_swapped) l_swapped c_swapped k_swapped), b_swapped := ((fun_mk (st := s_swapped) l_swapped c_swapped k_swapped).binds (ps := P_swapped) fun _ _ _ _ _ _ us hl => match us, hl with | [_, _, _], _ => rfl), g_swapped := (PySem.W.mg_of X G g_swapped), a_half_of := (f_half_of), d_half_of := (_), F_half_of := (fun_mk (st := s_half_of) l_half_of c_half_of k_half_of), b_half_of := ((fun_mk (st := s_half_of) l_half_of c_half_of k_half_of).binds (ps := P_half_of) fun _ _ _ _ _ _ us hl => match us, hl with | [_], _ => rfl), g_half_of := (PySem.W.mg_of X G g_half_of), a_wheel_of := (f_wheel_of), d_wheel_of := (_), F_wheel_of := (fun_mk (st := s_wheel_of) l_wheel_of c_wheel_of k_wheel_of), b_wheel_of := ((fun_mk (st := s_wheel_of) l_wheel_of c_wheel_of k_wheel_of).binds (ps := P_wheel_of) fun _ _ _ _ _ _ us hl => match us, hl with | [_], _ => rfl), g_wheel_of := (PySem.W.mg_of X G g_wheel_of), a_l_begin := (f_l_begin), d_l_begin := (_), F_l_begin := (fun_mk (st := s_l_begin) l_l_begin c_l_begin k_l_begin), b_l_begin := ((fun_mk (st := s_l_begin) l_l_begin c_l_begin k_l_begin).binds (ps := P_l_begin) fun _ _ _ _ _ _ us hl => match us, hl with | [_], _ => rfl), g_l_begin := (PySem.W.mg_of X G g_l_begin), a_l_draw := (f_l_draw), d_l_draw := (_), F_l_draw := (fun_mk (st := s_l_draw) l_l_draw c_l_draw k_l_draw), b_l_draw := ((fun_mk (st := s_l_draw) l_l_draw c_l_draw k_l_draw).binds (ps := P_l_draw) fun _ _ _ _ _ _ us hl => match us, hl with | [_, _], _ => rfl), g_l_draw := (PySem.W.mg_of X G g_l_draw), a_l_pick := (f_l_pick), d_l_pick := (_), F_l_pick := (fun_mk (st := s_l_pick) l_l_pick c_l_pick k_l_pick), b_l_pick := ((fun_mk (st := s_l_pick) l_l_pick c_l_pick k_l_pick).binds (ps := P_l_pick) fun _ _ _ _ _ _ us hl => match us, hl with | [_, _], _ => rfl), g_l_pick := (PySem.W.mg_of X G g_l_pick), a_l_ten := (f_l_ten), d_l_ten := (_), F_l_ten := (fun_mk (st := s_l_ten) l_l_ten c_l_ten k_l_ten), b_l_ten := ((fun_mk (st := s_l_ten) l_l_ten c_l_ten k_l_ten).binds (ps := P_l_ten) fun _ _ _ _ _ _ us hl => match us, hl with | [_], _ => rfl), g_l_ten := (PySem.W.mg_of X G g_l_ten), a_l_long := (f_l_long), d_l_long := (_), F_l_long := (fun_mk (st := s_l_long) l_l_long c_l_long k_l_long), b_l_long := ((fun_mk (st := s_l_long) l_l_long c_l_long k_l_long).binds (ps := P_l_long) fun _ _ _ _ _ _ us hl => match us, hl with | [_, _], _ => rfl), g_l_long := (PySem.W.mg_of X G g_l_long), a_l_size := (f_l_size), d_l_size := (_), F_l_size := (fun_mk (st := s_l_size) l_l_size c_l_size k_l_size), b_l_size := ((fun_mk (st := s_l_size) l_l_size c_l_size k_l_size).binds (ps := P_l_size) fun _ _ _ _ _ _ us hl => match us, hl with | [_, _], _ => rfl), g_l_size := (PySem.W.mg_of X G g_l_size), a_l_number := (f_l_number), d_l_number := (_), F_l_number := (fun_mk (st := s_l_number) l_l_number c_l_number k_l_number), b_l_number := ((fun_mk (st := s_l_number) l_l_number c_l_number k_l_number).binds (ps := P_l_number) fun _ _ _ _ _ _ us hl => match us, hl with | [_, _], _ => rfl), g_l_number := (PySem.W.mg_of X G g_l_number), a_l_whole_is := (f_l_whole_is), d_l_whole_is := (_), F_l_whole_is := (fun_mk (st := s_l_whole_is) l_l_whole_is c_l_whole_is k_l_whole_is), b_l_whole_is := ((fun_mk (st := s_l_whole_is) l_l_whole_is c_l_whole_is k_l_whole_is).binds (ps := P_l_whole_is) fun _ _ _ _ _ _ us hl => match us, hl with | [_, _], _ => rfl), g_l_whole_is := (PySem.W.mg_of X G g_l_whole_is), a_l_truth := (f_l_truth), d_l_truth := (_), F_l_truth := (fun_mk (st := s_l_truth) l_l_truth c_l_truth k_l_truth), b_l_truth := ((fun_mk (st := s_l_truth) l_l_truth c_l_truth k_l_truth).binds (ps := P_l_truth) fun _ _ _ _ _ _ us hl => match us, hl with | [_, _], _ => rfl), g_l_truth := (PySem.W.mg_of X G g_l_truth), a_l_mul := (f_l_mul), d_l_mul := (_), F_l_mul := (fun_mk (st := s_l_mul) l_l_mul c_l_mul k_l_mul), b_l_mul := ((fun_mk (st := s_l_mul) l_l_mul c_l_mul k_l_mul).binds (ps := P_l_mul) fun _ _ _ _ _ _ us hl => match us, hl with | [_, _], _ => rfl), g_l_mul := (PySem.W.mg_of X G g_l_mul), a_l_undo := (f_l_undo), d_l_undo := (_), F_l_undo := (fun_mk (st := s_l_undo) l_l_undo c_l_undo k_l_undo), b_l_undo := ((fun_mk (st := s_l_undo) l_l_undo c_l_undo k_l_undo).binds (ps := P_l_undo) fun _ _ _ _ _ _ us hl => match us, hl with | [_], _ => rfl), g_l_undo := (PySem.W.mg_of X G g_l_undo), a_l_pow := (f_l_pow), d_l_pow := (_), F_l_pow := (fun_mk (st := s_l_pow) l_l_pow c_l_pow k_l_pow), b_l_pow := ((fun_mk (st := s_l_pow) l_l_pow c_l_pow k_l_pow).binds (ps := P_l_pow) fun _ _ _ _ _ _ us hl => match us, hl with | [_, _], _ => rfl), g_l_pow := (PySem.W.mg_of X G g_l_pow), a_l_prod := (f_l_prod), d_l_prod := (_), F_l_prod := (fun_mk (st := s_l_prod) l_l_prod c_l_prod k_l_prod), b_l_prod := ((fun_mk (st := s_l_prod) l_l_prod c_l_prod k_l_prod).binds (ps := P_l_prod) fun _ _ _ _ _ _ us hl => match us, hl with | [_], _ => rfl), g_l_prod := (PySem.W.mg_of X G g_l_prod), a_l_place := (f_l_place), d_l_place := (_), F_l_place := (fun_mk (st := s_l_place) l_l_place c_l_place k_l_place), b_l_place := ((fun_mk (st := s_l_place) l_l_place c_l_place k_l_place).binds (ps := P_l_place) fun _ _ _ _ _ _ us hl => match us, hl with | [_], _ => rfl), g_l_place := (PySem.W.mg_of X G g_l_place), a_l_row := (f_l_row), d_l_row := (_), F_l_row := (fun_mk (st := s_l_row) l_l_row c_l_row k_l_row), b_l_row := ((fun_mk (st := s_l_row) l_l_row c_l_row k_l_row).binds (ps := P_l_row) fun _ _ _ _ _ _ us hl => match us, hl with | [_], _ => rfl), g_l_row := (PySem.W.mg_of X G g_l_row), a_l_ledge_right := (f_l_ledge_right), d_l_ledge_right := (_), F_l_ledge_right := (fun_mk (st := s_l_ledge_right) l_l_ledge_right c_l_ledge_right k_l_ledge_right), b_l_ledge_right := ((fun_mk (st := s_l_ledge_right) l_l_ledge_right c_l_ledge_right k_l_ledge_right).binds (ps := P_l_ledge_right) fun _ _ _ _ _ _ us hl => match us, hl with | [_, _], _ => rfl), g_l_ledge_right := (PySem.W.mg_of X G g_l_ledge_right), a_l_figures := (f_l_figures), d_l_figures := (_), F_l_figures := (fun_mk (st := s_l_figures) l_l_figures c_l_figures k_l_figures), b_l_figures := ((fun_mk (st := s_l_figures) l_l_figures c_l_figures k_l_figures).binds (ps := P_l_figures) fun _ _ _ _ _ _ us hl => match us, hl with | [_, _, _], _ => rfl), g_l_figures := (PySem.W.mg_of X G g_l_figures), a_l_brewed := (f_l_brewed), d_l_brewed := (_), F_l_brewed := (fun_mk (st := s_l_brewed) l_l_brewed c_l_brewed k_l_brewed), b_l_brewed := ((fun_mk (st := s_l_brewed) l_l_brewed c_l_brewed k_l_brewed).binds (ps := P_l_brewed) fun _ _ _ _ _ _ us hl => match us, hl with | [_, _], _ => rfl), g_l_brewed := (PySem.W.mg_of X G g_l_brewed), a_l_table_right := (f_l_table_right), d_l_table_right := (_), F_l_table_right := (fun_mk (st := s_l_table_right) l_l_table_right c_l_table_right k_l_table_right), b_l_table_right := ((fun_mk (st := s_l_table_right) l_l_table_right c_l_table_right k_l_table_right).binds (ps := P_l_table_right) fun _ _ _ _ _ _ us hl => match us, hl with | [_, _], _ => rfl), g_l_table_right := (PySem.W.mg_of X G g_l_table_right), a_l_returned_right := (f_l_returned_right), d_l_returned_right := (_), F_l_returned_right := (fun_mk (st := s_l_returned_right) l_l_returned_right c_l_returned_right k_l_returned_right), b_l_returned_right := ((fun_mk (st := s_l_returned_right) l_l_returned_right c_l_returned_right k_l_returned_right).binds (ps := P_l_returned_right) fun _ _ _ _ _ _ us hl => match us, hl with | [_], _ => rfl), g_l_returned_right := (PySem.W.mg_of X G g_l_returned_right), a_l_made := (f_l_made), d_l_made := (_), F_l_made := (fun_mk (st := s_l_made) l_l_made c_l_made k_l_made), b_l_made := ((fun_mk (st := s_l_made) l_l_made c_l_made k_l_made).binds (ps := P_l_made) fun _ _ _ _ _ _ us hl => match us, hl with | [_, _, _, _], _ => rfl), g_l_made := (PySem.W.mg_of X G g_l_made), a_l_round := (f_l_round), d_l_round := (_), F_l_round := (fun_mk (st := s_l_round) l_l_round c_l_round k_l_round), b_l_round := ((fun_mk (st := s_l_round) l_l_round c_l_round k_l_round).binds (ps := P_l_round) fun _ _ _ _ _ _ us hl => match us, hl with | [_, _], _ => rfl), g_l_round := (PySem.W.mg_of X G g_l_round), a_l_shuffled := (f_l_shuffled), d_l_shuffled := (_), F_l_shuffled := (fun_mk (st := s_l_shuffled) l_l_shuffled c_l_shuffled k_l_shuffled), b_l_shuffled := ((fun_mk (st := s_l_shuffled) l_l_shuffled c_l_shuffled k_l_shuffled).binds (ps := P_l_shuffled) fun _ _ _ _ _ _ us hl => match us, hl with | [_, _], _ => rfl), g_l_shuffled := (PySem.W.mg_of X G g_l_shuffled), a_l_far_right := (f_l_far_right), d_l_far_right := (_), F_l_far_right := (fun_mk (st := s_l_far_right) l_l_far_right c_l_far_right k_l_far_right), b_l_far_right := ((fun_mk (st := s_l_far_right) l_l_far_right c_l_far_right k_l_far_right).binds (ps := P_l_far_right) fun _ _ _ _ _ _ us hl => match us, hl with | [_], _ => rfl), g_l_far_right := (PySem.W.mg_of X G g_l_far_right), a_l_ring_right := (f_l_ring_right), d_l_ring_right := (_), F_l_ring_right := (fun_mk (st := s_l_ring_right) l_l_ring_right c_l_ring_right k_l_ring_right), b_l_ring_right := ((fun_mk (st := s_l_ring_right) l_l_ring_right c_l_ring_right k_l_ring_right).binds (ps := P_l_ring_right) fun _ _ _ _ _ _ us hl => match us, hl with | [_], _ => rfl), g_l_ring_right := (PySem.W.mg_of X G g_l_ring_right), a_law := (f_law), d_law := (_), F_law := (fun_mk (st := s_law) l_law c_law k_law), b_law := ((fun_mk (st := s_law) l_law c_law k_law).binds (ps := P_law) fun _ _ _ _ _ _ us hl => match us, hl with | [_], _ => rfl), g_law := (PySem.W.mg_of X G g_law), C_BadNumber := (C_BadNumber), g_C_BadNumber := (PySem.W.mg_of X G g_C_BadNumber), a_BadNumber_init := (f_BadNumber_init), d_BadNumber_init := (_), F_BadNumber_init := (fun_mk (st := s_BadNumber_init) l_BadNumber_init c_BadNumber_init k_BadNumber_init), b_BadNumber_init := ((fun_mk (st := s_BadNumber_init) l_BadNumber_init c_BadNumber_init k_BadNumber_init).binds (ps := P_BadNumber_init) fun _ _ _ _ _ _ us hl => match us, hl with | [_, _], _ => rfl), X_BadNumber := (⟨⟨nm_BadNumber, qn_BadNumber, NN_BadNumber, bs_BadNumber, _, sn_BadNumber, sb_BadNumber, ab_BadNumber, co_BadNumber, dd_BadNumber, m0_BadNumber, m1_BadNumber, m2_BadNumber, m3_BadNumber, m5_BadNumber, x_BadNumber, rfl⟩, sa_BadNumber, ex_BadNumber, ty_BadNumber, kc_BadNumber⟩), ei_BadNumber := (m_BadNumber_init), et_BadNumber := (beq_iff_eq.mp i_BadNumber_init), na_BadNumber_value := (na_BadNumber_value), C_BadPlace := (C_BadPlace), g_C_BadPlace := (PySem.W.mg_of X G g_C_BadPlace), a_BadPlace_init := (f_BadPlace_init), d_BadPlace_init := (_), F_BadPlace_init := (fun_mk (st := s_BadPlace_init) l_BadPlace_init c_BadPlace_init k_BadPlace_init), b_BadPlace_init := ((fun_mk (st := s_BadPlace_init) l_BadPlace_init c_BadPlace_init k_BadPlace_init).binds (ps := P_BadPlace_init) fun _ _ _ _ _ _ us hl => match us, hl with | [_, _], _ => rfl), X_BadPlace := (⟨⟨nm_BadPlace, qn_BadPlace, NN_BadPlace, bs_BadPlace, _, sn_BadPlace, sb_BadPlace, ab_BadPlace, co_BadPlace, dd_BadPlace, m0_BadPlace, m1_BadPlace, m2_BadPlace, m3_BadPlace, m5_BadPlace, x_BadPlace, rfl⟩, sa_BadPlace, ex_BadPlace, ty_BadPlace, kc_BadPlace⟩), ei_BadPlace := (m_BadPlace_init), et_BadPlace := (beq_iff_eq.mp i_BadPlace_init), na_BadPlace_value := (na_BadPlace_value), C_Place := (C_Place), g_C_Place := (PySem.W.mg_of X G g_C_Place), cl_Place := (⟨pg_Place, hd_Place, po_Place, sa_Place⟩), ca_Place := (ca_Place), cm_Place := (cm_Place), na_Place_x := (na_Place_x), na_Place_y := (na_Place_y), na_Place_area := (na_Place_area), a_Place_init := (f_Place_init), d_Place_init := (_), F_Place_init := (fun_mk (st := s_Place_init) l_Place_init c_Place_init k_Place_init), b_Place_init := ((fun_mk (st := s_Place_init) l_Place_init c_Place_init k_Place_init).binds (ps := P_Place_init) fun _ _ _ _ _ _ us hl => match us, hl with | [_, _, _, _], _ => rfl), M_Place := (⟨mk_Place, m_Place_init, i_Place_init, kc_Place⟩), a_Place_eq := (f_Place_eq), d_Place_eq := (_), F_Place_eq := (fun_mk (st := s_Place_eq) l_Place_eq c_Place_eq k_Place_eq), b_Place_eq := ((fun_mk (st := s_Place_eq) l_Place_eq c_Place_eq k_Place_eq).binds (ps := P_Place_eq) fun _ _ _ _ _ _ us hl => match us, hl with | [_, _], _ => rfl), E_Place := (⟨m_Place_eq, i_Place_eq, ne_Place, cm_Place⟩), a_Place_mul := (f_Place_mul), d_Place_mul := (_), F_Place_mul := (fun_mk (st := s_Place_mul) l_Place_mul c_Place_mul k_Place_mul), b_Place_mul := ((fun_mk (st := s_Place_mul) l_Place_mul c_Place_mul k_Place_mul).binds (ps := P_Place_mul) fun _ _ _ _ _ _ us hl => match us, hl with | [_, _], _ => rfl), O_Place_Mult := (⟨sf_Place_Mult, m_Place_mul, ro_Place_Mult, i_Place_mul⟩), a_Place_power := (f_Place_power), d_Place_power := (_), F_Place_power := (fun_mk (st := s_Place_power) l_Place_power c_Place_power k_Place_power), b_Place_power := ((fun_mk (st := s_Place_power) l_Place_power c_Place_power k_Place_power).binds (ps := P_Place_power) fun _ _ _ _ _ _ us hl => match us, hl with | [_, _], _ => rfl), M_Place_power := (⟨m_Place_power, i_Place_power, k_Place_power⟩), a_Place_twist := (f_Place_twist), d_Place_twist := (_), F_Place_twist := (fun_mk (st := s_Place_twist) l_Place_twist c_Place_twist k_Place_twist), b_Place_twist := ((fun_mk (st := s_Place_twist) l_Place_twist c_Place_twist k_Place_twist).binds (ps := P_Place_twist) fun _ _ _ _ _ _ us hl => match us, hl with | [_, _], _ => rfl), M_Place_twist := (⟨m_Place_twist, i_Place_twist, k_Place_twist⟩), C_Brew := (C_Brew), g_C_Brew := (PySem.W.mg_of X G g_C_Brew), cl_Brew := (⟨pg_Brew, hd_Brew, po_Brew, sa_Brew⟩), na_Brew_places := (na_Brew_places), na_Brew_lines := (na_Brew_lines), a_Brew_init := (f_Brew_init), d_Brew_init := (_), F_Brew_init := (fun_mk (st := s_Brew_init) l_Brew_init c_Brew_init k_Brew_init), b_Brew_init := ((fun_mk (st := s_Brew_init) l_Brew_init c_Brew_init k_Brew_init).binds (ps := P_Brew_init) fun _ _ _ _ _ _ us hl => match us, hl with | [_, _], _ => rfl), M_Brew := (⟨mk_Brew, m_Brew_init, i_Brew_init, kc_Brew⟩), a_Brew_add_line := (f_Brew_add_line), d_Brew_add_line := (_), F_Brew_add_line := (fun_mk (st := s_Brew_add_line) l_Brew_add_line c_Brew_add_line k_Brew_add_line), b_Brew_add_line := ((fun_mk (st := s_Brew_add_line) l_Brew_add_line c_Brew_add_line k_Brew_add_line).binds (ps := P_Brew_add_line) fun _ _ _ _ _ _ us hl => match us, hl with | [_, _, _, _], _ => rfl), M_Brew_add_line := (⟨m_Brew_add_line, i_Brew_add_line, k_Brew_add_line⟩), C_Table := (C_Table), g_C_Table := (PySem.W.mg_of X G g_C_Table), cl_Table := (⟨pg_Table, hd_Table, po_Table, sa_Table⟩), ca_Table := (ca_Table), cm_Table := (cm_Table), na_Table_told := (na_Table_told), na_Table_ledge := (na_Table_ledge), na_Table_home := (na_Table_home), na_Table_recipe := (na_Table_recipe), na_Table_made := (na_Table_made), a_Table_init := (f_Table_init), d_Table_init := (_), F_Table_init := (fun_mk (st := s_Table_init) l_Table_init c_Table_init k_Table_init), b_Table_init := ((fun_mk (st := s_Table_init) l_Table_init c_Table_init k_Table_init).binds (ps := P_Table_init) fun _ _ _ _ _ _ us hl => match us, hl with | [_, _], _ => rfl), M_Table := (⟨mk_Table, m_Table_init, i_Table_init, kc_Table⟩), a_Table_eq := (f_Table_eq), d_Table_eq := (_), F_Table_eq := (fun_mk (st := s_Table_eq) l_Table_eq c_Table_eq k_Table_eq), b_Table_eq := ((fun_mk (st := s_Table_eq) l_Table_eq c_Table_eq k_Table_eq).binds (ps := P_Table_eq) fun _ _ _ _ _ _ us hl => match us, hl with | [_, _], _ => rfl), E_Table := (⟨m_Table_eq, i_Table_eq, ne_Table, cm_Table⟩), a_Table_contains := (f_Table_contains), d_Table_contains := (_), F_Table_contains := (fun_mk (st := s_Table_contains) l_Table_contains c_Table_contains k_Table_contains), b_Table_contains := ((fun_mk (st := s_Table_contains) l_Table_contains c_Table_contains k_Table_contains).binds (ps := P_Table_contains) fun _ _ _ _ _ _ us hl => match us, hl with | [_, _], _ => rfl), M_Table_contains := (⟨m_Table_contains, i_Table_contains, k_Table_contains⟩), C_Forward := (C_Forward), g_C_Forward := (PySem.W.mg_of X G g_C_Forward), cl_Forward := (⟨pg_Forward, hd_Forward, po_Forward, sa_Forward⟩), na_Forward_whole := (na_Forward_whole), na_Forward_told := (na_Forward_told), na_Forward_half := (na_Forward_half), na_Forward_around := (na_Forward_around), na_Forward_wheel := (na_Forward_wheel), a_Forward_init := (f_Forward_init), d_Forward_init := (_), F_Forward_init := (fun_mk (st := s_Forward_init) l_Forward_init c_Forward_init k_Forward_init), b_Forward_init := ((fun_mk (st := s_Forward_init) l_Forward_init c_Forward_init k_Forward_init).binds (ps := P_Forward_init) fun _ _ _ _ _ _ us hl => match us, hl with | [_, _], _ => rfl), M_Forward := (⟨mk_Forward, m_Forward_init, i_Forward_init, kc_Forward⟩), a_Forward_table := (f_Forward_table), d_Forward_table := (_), F_Forward_table := (fun_mk (st := s_Forward_table) l_Forward_table c_Forward_table k_Forward_table), b_Forward_table := ((fun_mk (st := s_Forward_table) l_Forward_table c_Forward_table k_Forward_table).binds (ps := P_Forward_table) fun _ _ _ _ _ _ us hl => match us, hl with | [_], _ => rfl), M_Forward_table := (⟨m_Forward_table, i_Forward_table, k_Forward_table⟩), a_Forward_has := (f_Forward_has), d_Forward_has := (_), F_Forward_has := (fun_mk (st := s_Forward_has) l_Forward_has c_Forward_has k_Forward_has), b_Forward_has := ((fun_mk (st := s_Forward_has) l_Forward_has c_Forward_has k_Forward_has).binds (ps := P_Forward_has) fun _ _ _ _ _ _ us hl => match us, hl with | [_, _], _ => rfl), M_Forward_has := (⟨m_Forward_has, i_Forward_has, k_Forward_has⟩), a_Forward_check_reach := (f_Forward_check_reach), d_Forward_check_reach := (_), F_Forward_check_reach := (fun_mk (st := s_Forward_check_reach) l_Forward_check_reach c_Forward_check_reach k_Forward_check_reach), b_Forward_check_reach := ((fun_mk (st := s_Forward_check_reach) l_Forward_check_reach c_Forward_check_reach k_Forward_check_reach).binds (ps := P_Forward_check_reach) fun _ _ _ _ _ _ us hl => match us, hl with | [_, _], _ => rfl), M_Forward_check_reach := (⟨m_Forward_check_reach, i_Forward_check_reach, k_Forward_check_reach⟩), cn := (cn), ct := (ct), io_Place_int := (io_Place_int), io_Place_bool := (io_Place_bool), is_NoneType_Place := (is_NoneType_Place), is_bool_Place := (is_bool_Place), is_int_Place := (is_int_Place), is_str_Place := (is_str_Place), is_list_Place := (is_list_Place), is_tuple_Place := (is_tuple_Place), is_dict_Place := (is_dict_Place), n_all := (PySem.W.mg_none_of X G n_all), n_bool := (PySem.W.mg_none_of X G n_bool), n_enumerate := (PySem.W.mg_none_of X G n_enumerate), n_int := (PySem.W.mg_none_of X G n_int), n_isinstance := (PySem.W.mg_none_of X G n_isinstance), n_len := (PySem.W.mg_none_of X G n_len), n_list := (PySem.W.mg_none_of X G n_list), n_max := (PySem.W.mg_none_of X G n_max), n_min := (PySem.W.mg_none_of X G n_min), n_range := (PySem.W.mg_none_of X G n_range), n_tuple := (PySem.W.mg_none_of X G n_tuple), n_zip := (PySem.W.mg_none_of X G n_zip), tk_MOST_TOLD := (tk_MOST_TOLD), gc_MOST_TOLD := (PySem.W.mg_of X G gc_MOST_TOLD), mi_gcd := (PySem.W.mg_of X G mi_gcd) } ?_
  have e := hfa.symm.trans (PySem.W.mg_of X G g_law)
  cases e
  rfl
end AW

set_option linter.all false
set_option maxRecDepth 100000
set_option maxHeartbeats 4000000
namespace AW
open PySem PySem.Spec PyProof.Rows L2
section
variable {K : PySem.W.Frag} {mg : Str → Option Value}
/-- the type of a value of the law's -/
def TyT (T : Tx K mg) (t : Value) : Prop := t = .ref T.C_Place ∨ t = .type "NoneType" ∨ t = .type "bool" ∨ t = .type "int" ∨ t = .type "str" ∨ t = .type "list" ∨ t = .type "tuple" ∨ t = .type "dict"
def isI (t : Value) : Bool := t == .type "int" || t == .type "bool"
def isB (t : Value) : Bool := t == .type "bool"
def isP (T : Tx K mg) (t : Value) : Bool := t == .ref T.C_Place
theorem kit_int (T : Tx K mg) {t : Value} (h : TyT T t) : PySem.W.kitOne K t (.type "int") = some (isI t) := by
  rcases h with rfl | rfl | rfl | rfl | rfl | rfl | rfl | rfl
  · exact T.io_Place_int
  all_goals exact kit_ty (by decide +kernel)
theorem kit_bool (T : Tx K mg) {t : Value} (h : TyT T t) : PySem.W.kitOne K t (.type "bool") = some (isB t) := by
  rcases h with rfl | rfl | rfl | rfl | rfl | rfl | rfl | rfl
  · exact T.io_Place_bool
  all_goals exact kit_ty (by decide +kernel)
theorem kit_self {t : Value} : PySem.W.kitOne K t t = some true := by
  unfold PySem.W.kitOne
  rw [if_pos (by simp)]
theorem kit_place (T : Tx K mg) {t : Value} (h : TyT T t) : PySem.W.kitOne K t (.ref T.C_Place) = some (isP T t) := by
  rcases h with rfl | rfl | rfl | rfl | rfl | rfl | rfl | rfl
  · rw [kit_self]; simp [isP]
  · exact T.is_NoneType_Place
  · exact T.is_bool_Place
  · exact T.is_int_Place
  · exact T.is_str_Place
  · exact T.is_list_Place
  · exact T.is_tuple_Place
  · exact T.is_dict_Place
def intV : V → Bool
  | .int _ => true
  | _ => false
theorem intV_of {H : Hp} {v : V} {t : Value} (ty : TyX K H v t) : (isI t && !isB t) = intV v := by
  cases ty with
  | base b => cases b <;> first | rfl | (simp [isI, isB, intV])
  | _ => rfl
/-- a value of the law's, in the heap H -/
def Vl (T : Tx K mg) (H : Hp) (v : V) : Prop := ∃ t, TyX K H v t ∧ TyT T t
theorem TyOf.mono {H H' : Hp} {v : V} {t : Value} (s : Same H H') (h : TyOf K H v t) : TyOf K H' v t := by
  cases h with
  | non => exact .non
  | bl x => exact .bl x
  | int i => exact .int i
  | str x => exact .str x
  | flt x => exact .flt x
  | lst e => exact .lst (s _ _ e)
  | frz e => exact .frz (s _ _ e)
  | tup e => exact .tup (s _ _ e)
  | dK e => exact .dK (s _ _ e)
  | dT e => exact .dT (s _ _ e)
  | ins e cl ha hn htk hm => exact .ins (s _ _ e) cl ha hn htk hm
theorem TyX.mono {H H' : Hp} {v : V} {t : Value} (s : Same H H') (h : TyX K H v t) : TyX K H' v t := by
  cases h with
  | base b => exact .base (TyOf.mono s b)
  | byt b => exact .byt b
  | set e => exact .set (s _ _ e)
  | kList e c => exact .kList e c
  | kTuple e c => exact .kTuple e c
  | kDict e c => exact .kDict e c
  | fTuple e => exact .fTuple (s _ _ e)
  | fDict e => exact .fDict (s _ _ e)
theorem Vl.mono {T : Tx K mg} {H H' : Hp} {v : V} (s : Same H H') (h : Vl T H v) : Vl T H' v := let ⟨t, a, b⟩ := h; ⟨t, TyX.mono s a, b⟩
theorem Vl.int {T : Tx K mg} {H : Hp} (i : Int) : Vl T H (.int i) := ⟨_, .base (.int i), .inr (.inr (.inr (.inl rfl)))⟩
theorem Vl.non {T : Tx K mg} {H : Hp} : Vl T H .non := ⟨_, .base .non, .inr (.inl rfl)⟩
theorem Vl.bl {T : Tx K mg} {H : Hp} (b : Bool) : Vl T H (.bl b) := ⟨_, .base (.bl b), .inr (.inr (.inl rfl))⟩
theorem Vl.str {T : Tx K mg} {H : Hp} (b : Str) : Vl T H (.str b) := ⟨_, .base (.str b), .inr (.inr (.inr (.inr (.inl rfl))))⟩
theorem Vl.lst {T : Tx K mg} {H : Hp} {a : Addr} {xs : List V} (e : H a = some (.lst xs)) : Vl T H (.ref a) := ⟨_, .base (.lst e), .inr (.inr (.inr (.inr (.inr (.inl rfl)))))⟩
theorem Vl.tup {T : Tx K mg} {H : Hp} {a : Addr} {xs : List V} (e : H a = some (.tup xs)) : Vl T H (.ref a) := ⟨_, .base (.tup e), .inr (.inr (.inr (.inr (.inr (.inr (.inl rfl))))))⟩
theorem kxy : ¬ (("x" : Str) = "y") := by decide +kernel
theorem kxa : ¬ (("x" : Str) = "area") := by decide +kernel
theorem kya : ¬ (("y" : Str) = "area") := by decide +kernel
def flds (x y a : Int) : List (Str × V) := [("x", .int x), ("y", .int y), ("area", .int a)]
theorem flds_x (x y a : Int) : (flds x y a).lookup ("x" : Str) = some (.int x) := by simp [flds, List.lookup]
theorem flds_y (x y a : Int) : (flds x y a).lookup ("y" : Str) = some (.int y) := by
  have h : (("y" : Str) == "x") = false := by decide +kernel
  simp [flds, List.lookup, h]
theorem flds_a (x y a : Int) : (flds x y a).lookup ("area" : Str) = some (.int a) := by
  have h : (("area" : Str) == "x") = false := by decide +kernel
  have h2 : (("area" : Str) == "y") = false := by decide +kernel
  simp [flds, List.lookup, h, h2]
/-- a Place (x, y, a) at p -/
def PlAt (T : Tx K mg) (H : Hp) (p : Addr) (x y a : Int) : Prop := ∃ dx, H p = some (.ins T.C_Place dx (flds x y a))
theorem PlAt.mono {T : Tx K mg} {H H' : Hp} {p : Addr} {x y a : Int} (s : Same H H') (h : PlAt T H p x y a) : PlAt T H' p x y a := let ⟨dx, e⟩ := h; ⟨dx, s _ _ e⟩
theorem PlAt.ty {T : Tx K mg} {H : Hp} {p : Addr} {x y a : Int} (h : PlAt T H p x y a) : TyX K H (.ref p) (.ref T.C_Place) := let ⟨_, e⟩ := h; .base (.ins e T.cl_Place T.ca_Place T.cn T.ct T.cm_Place)
theorem PlAt.vl {T : Tx K mg} {H : Hp} {p : Addr} {x y a : Int} (h : PlAt T H p x y a) : Vl T H (.ref p) := ⟨_, h.ty, .inl rfl⟩
theorem Same.laid {H : Hp} {p : Addr} {o : HO} (h : H p = none) : Same H (upd H p o) := fun b u e => by rw [upd_ne (ne_of_none e h)]; exact e
theorem Same.after {H H1 : Hp} {p : Addr} {o : HO} (s : Same H H1) (h : H1 p = none) : Same H (upd H1 p o) := s.trans (Same.laid h)
end
end AW

set_option linter.all false
set_option maxRecDepth 100000
set_option maxHeartbeats 4000000
namespace AW
open PySem PySem.Spec PyProof.Rows L2
section
variable {P : Program} {w : World} {K : PySem.W.Frag} {mg : Str → Option Value} {base : Heap}
/-- what an own error of a base def lets out, by the def's own wish -/
theorem passE {X : Cx} {E : XK} {E₁ : Value → Shared → Prop} (hs : X.stack = X.env :: X.outer := by rfl) (hf : X.env.frame = some X.env.locals := by rfl) (hex : X.ex = [] := by rfl)
    (hx : X.xe = fun e s' => wpAny (model X.prog X.w) X.A (leaving X.env e) (fun _ s'' => L2.CX X.prog X.w X.outer X.H_0 X.s_0 E e s'') E₁ s' := by rfl) : Passes (L2.CX X.prog X.w) X E :=
  passes_call (takes_of hs hf hex hx) (fun _ _ _ _ h => h)
def sp_is_integer (T : Tx K mg) : Sp := fun vs H Q _ => ∃ v, vs = [v] ∧ Vl T H v ∧ Q (.bl (intV v)) H
theorem ok_is_integer (T : Tx K mg) : FnOk P w K mg base (L2.CX P w) 1 T.a_is_integer T.d_is_integer P_is_integer (sp_is_integer T) := by
  refine T.F_is_integer.okX sc_is_integer (fun vs H Q E h => ?_) (fun cdv A outer s H vs Q E hr h => ?_)
  · obtain ⟨v, rfl, _⟩ := h
    rfl
  · obtain ⟨v, rfl, ⟨t, ty, hv⟩, k⟩ := h
    refine ⟨_, pss_one (ps_ret (pe_and (pe_callB call_isi rfl T.n_isinstance (by decide +kernel) (pa_cons (pv 0) (pa_cons (pe_bltn (v := .ty "int") rfl T.n_int (by decide +kernel) rfl) pa_nil)))
      (pe_one (pe_not (pe_callB call_isi rfl T.n_isinstance (by decide +kernel) (pa_cons (pv 0) (pa_cons (pe_bltn (v := .ty "bool") rfl T.n_bool (by decide +kernel) rfl) pa_nil))))))), ?_⟩
    refine ⟨_, rfl, v, .ty "int", t, _, isI t, rfl, .ty _, ty, kit_int T hv, _, rfl, ?_⟩
    cases hi : isI t with
    | false =>
      refine iteF ?_
      have e := intV_of ty
      rw [hi] at e
      have e' : intV v = false := by rw [← e] <;> rfl
      rw [e'] at k
      exact k
    | true =>
      refine iteT ⟨_, rfl, v, .ty "bool", t, _, isB t, rfl, .ty _, ty, kit_bool T hv, _, rfl, ?_⟩
      have e := intV_of ty
      rw [hi, Bool.true_and] at e
      rw [e]
      exact k
/-- an error's own __init__ -/
def sp_einit (C : Addr) (f : Str) : Sp := fun vs H Q _ => ∃ (a : Addr) (v : V), vs = [.ref a, v] ∧ H a = some (exo a C none) ∧ ∀ dx, H dx = none → dx ≠ a → Q .non (upd (upd H dx (exd dx [(f, v)])) a (exo a C (some dx)))
theorem ok_BadNumber_init (T : Tx K mg) : FnOk P w K mg base (L2.CX P w) 1 T.a_BadNumber_init T.d_BadNumber_init P_BadNumber_init (sp_einit T.C_BadNumber "value") := by
  refine T.F_BadNumber_init.okX sc_BadNumber_init (fun vs H Q E h => ?_) (fun cdv A outer s H vs Q E hr h => ?_)
  · obtain ⟨a, v, rfl, _⟩ := h
    rfl
  · obtain ⟨a, v, rfl, ha, k⟩ := h
    refine ⟨_, pss_one (ps_ost (pv 0) (pv 1)), ?_⟩
    exact ⟨_, rfl, _, rfl, a, T.C_BadNumber, rfl, T.X_BadNumber, T.na_BadNumber_value, .inl ⟨ha, fun dx hd ne => k dx hd ne⟩⟩
theorem ok_BadPlace_init (T : Tx K mg) : FnOk P w K mg base (L2.CX P w) 1 T.a_BadPlace_init T.d_BadPlace_init P_BadPlace_init (sp_einit T.C_BadPlace "value") := by
  refine T.F_BadPlace_init.okX sc_BadPlace_init (fun vs H Q E h => ?_) (fun cdv A outer s H vs Q E hr h => ?_)
  · obtain ⟨a, v, rfl, _⟩ := h
    rfl
  · obtain ⟨a, v, rfl, ha, k⟩ := h
    refine ⟨_, pss_one (ps_ost (pv 0) (pv 1)), ?_⟩
    exact ⟨_, rfl, _, rfl, a, T.C_BadPlace, rfl, T.X_BadPlace, T.na_BadPlace_value, .inl ⟨ha, fun dx hd ne => k dx hd ne⟩⟩
/-- the wish for an error with one field: behind it the heap has its dict -/
def Err (H : Hp) (E : XK) (C : Addr) (f : Str) (v : V) : Prop := ∀ (d : Addr) (H' : Hp), Same H H' → H d = none → H' d = some (.xd [(f, v)]) → E (.ref C) (some d) H'
theorem Err.mono {H H1 : Hp} {E : XK} {C : Addr} {f : Str} {v : V} (s : Same H H1) (e : Err H E C f v) : Err H1 E C f v := fun d H' s' n h => e d H' (s.trans s') (s.free n) h
/-- what raise C(v) asks, by the init's promise -/
theorem mk_einit {C : Addr} {f : Str} {σ : L2.St} {H : Hp} {Q : XK} {ta : TA} {v : V} (h : ta σ H fun vs H1 => vs = [v] ∧ H1 = H) (k : Err H Q C f v) (hta : ∀ (Q Q' : List V → Hp → Prop), (∀ vs H, Q vs H → Q' vs H) → ta σ H Q → ta σ H Q') : tMkO C (sp_einit C f) [] ta σ H Q := by
  refine hta _ _ ?_ h
  rintro vs H1 ⟨rfl, rfl⟩
  refine ⟨by show 1 ≤ 1000; decide, fun a ha => ⟨a, v, rfl, upd_same, fun dx hd ne => ⟨rfl, dx, [(f, v)], upd_same, ?_, ?_, ?_⟩⟩⟩
  · rw [upd_ne ne, upd_same]
  · rw [upd_ne ne] at hd; exact hd
  · have hdx : H1 dx = none := by rw [upd_ne ne] at hd; exact hd
    refine k dx _ (fun b o e => ?_) hdx upd_same
    have nb : b ≠ dx := ne_of_none e hdx
    have na : b ≠ a := ne_of_none e ha
    rw [upd_ne nb, del_ne na, upd_ne na, upd_ne nb, upd_ne na]
    exact e
def sp_check_integer (T : Tx K mg) : Sp := fun vs H Q E => ∃ v, vs = [v] ∧ Vl T H v ∧ (intV v = true → Q .non H) ∧ (intV v = false → Err H E T.C_BadNumber "value" v)
theorem ok_check_integer (T : Tx K mg) : FnOk P w K mg base (L2.CX P w) 3 T.a_check_integer T.d_check_integer P_check_integer (sp_check_integer T) := by
  have G1 : FnOk P w K mg base (L2.CX P w) 1 _ _ _ _ := ok_is_integer T
  have G2 : FnOk P w K mg base (L2.CX P w) 1 _ _ _ _ := ok_BadNumber_init T
  refine T.F_check_integer.okX sc_check_integer (fun vs H Q E h => ?_) (fun cdv A outer s H vs Q E hr h => ?_)
  · obtain ⟨v, rfl, _⟩ := h
    rfl
  · obtain ⟨v, rfl, hv, kt, kf⟩ := h
    refine ⟨_, pss_one (ps_if (pt_not (pt_val (pe_call G1 (hr.mono (by decide)) rfl T.g_is_integer T.F_is_integer.kp T.b_is_integer .nil passL (pa_cons (pv 0) pa_nil))))
      (pss_one (ps_raise rfl (takes_of rfl rfl rfl rfl) (pmk_oex T.X_BadNumber T.ei_BadNumber T.et_BadNumber G2 hr T.b_BadNumber_init .nil passL rfl T.g_C_BadNumber (by exact pa_cons (pv 0) pa_nil)))) pss_nil), ?_⟩
    refine ⟨_, rfl, v, rfl, hv, _, rfl, ?_⟩
    cases hi : intV v with
    | true => exact iteF (kt hi)
    | false =>
      refine iteT ?_
      exact mk_einit (v := v) ⟨_, rfl, rfl, rfl⟩ (kf hi) (fun Q Q' h1 ⟨x, e, h2⟩ => ⟨x, e, h1 _ _ h2⟩)
end
end AW

set_option linter.all false
set_option maxRecDepth 100000
set_option maxHeartbeats 4000000
namespace AW
open PySem PySem.Spec PyProof.Rows L2
theorem find_first {α : Type} {p : α → Bool} : ∀ {xs : List α} {i : Nat} {v : α}, xs[i]? = some v → p v = true → (∀ (j : Nat) u, j < i → xs[j]? = some u → p u = false) → xs.find? p = some v
  | [], _, _, h, _, _ => by simp at h
  | a :: r, 0, v, h, hp, _ => by
    simp at h; subst h
    simp [List.find?, hp]
  | a :: r, i + 1, v, h, hp, hq => by
    have ha : p a = false := hq 0 a (Nat.succ_pos _) (by simp)
    simp only [List.find?, ha]
    exact find_first (by simpa using h) hp fun j u hj hu => hq (j + 1) u (Nat.succ_lt_succ hj) (by simpa using hu)
section
variable {P : Program} {w : World} {K : PySem.W.Frag} {mg : Str → Option Value} {base : Heap}
def sp_Place_init (T : Tx K mg) : Sp := fun vs H Q E => ∃ (p dx : Addr) (vx vy va : V), vs = [.ref p, vx, vy, va] ∧ H p = some (.ins T.C_Place dx []) ∧ Vl T H vx ∧ Vl T H vy ∧ Vl T H va ∧
  ((∃ x y a, vx = .int x ∧ vy = .int y ∧ va = .int a ∧ ∀ H' : Hp, (∀ b o, b ≠ p → H b = some o → H' b = some o) → H' p = some (.ins T.C_Place dx (flds x y a)) → Q .non H') ∨
   (∃ v, [vx, vy, va].find? (fun v => !intV v) = some v ∧ Err H E T.C_BadNumber "value" v))
theorem putF3 (x y a : Int) : putF "area" (.int a) (putF "y" (.int y) (putF "x" (.int x) [])) = flds x y a := by
  simp [putF, flds, kxy, kxa, kya]
theorem ok_Place_init (T : Tx K mg) : FnOk P w K mg base (L2.CX P w) 4 T.a_Place_init T.d_Place_init P_Place_init (sp_Place_init T) := by
  have G1 : FnOk P w K mg base (L2.CX P w) 3 _ _ _ _ := ok_check_integer T
  refine T.F_Place_init.okX sc_Place_init (fun vs H Q E h => ?_) (fun cdv A outer s H vs Q E hr h => ?_)
  · obtain ⟨p, dx, vx, vy, va, rfl, _⟩ := h
    rfl
  · obtain ⟨p, dx, vx, vy, va, rfl, hp, hx, hy, ha, k⟩ := h
    refine ⟨_, pss_cons (ps_for (passes_of rfl) rfl (pi_tup (pe_tup (pa_cons (pv 1) (pa_cons (pv 2) (pa_cons (pv 3) pa_nil))))) (pg_name (i := 4) sc_Place_init.nd rfl (.inl rfl))
        (pss_one (ps_expr (pe_call G1 hr rfl T.g_check_integer T.F_check_integer.kp T.b_check_integer .nil (passE (E := E)) (pa_cons (pv 4) pa_nil)))))
      (pss_cons (ps_fld (pv 0) (pv 1) rfl) (pss_cons (ps_fld (pv 0) (pv 2) rfl) (pss_one (ps_fld (pv 0) (pv 3) rfl)))), ?_⟩
    refine ⟨_, rfl, _, rfl, _, rfl, (by show 3 ≤ sizeLine; decide), fun t ht => ⟨t, rfl, ⟨_, SqT.of upd_same⟩, ?_⟩⟩
    have s0 : Same H (upd H t (.tup [vx, vy, va])) := Same.laid ht
    refine for_tup (K := K) (a := t) (xs := [vx, vy, va]) (fun i σ H1 => (∃ v, σ = [some (.ref p), some vx, some vy, some va, v]) ∧ H1 = upd H t (.tup [vx, vy, va]) ∧ ∀ (j : Nat) u, j < i → [vx, vy, va][j]? = some u → (!intV u) = false)
      ⟨⟨none, rfl⟩, rfl, fun j u hj => absurd hj (Nat.not_lt_zero _)⟩ (fun i σ H1 _ ⟨_, e, _⟩ => by rw [e]; exact SqT.of upd_same) ?_ ?_
    · rintro i v σ H1 hi ⟨⟨v0, rfl⟩, rfl, hj⟩
      have hv : Vl T H v := by
        match i, hi with
        | 0, hi => simp at hi; subst hi; exact hx
        | 1, hi => simp at hi; subst hi; exact hy
        | 2, hi => simp at hi; subst hi; exact ha
      refine ⟨_, rfl, v, rfl, hv.mono s0, fun hi' => ⟨⟨_, rfl⟩, rfl, fun j u hlt hu => ?_⟩, fun hi' => ?_⟩
      · rcases Nat.lt_succ_iff_lt_or_eq.mp hlt with h | h
        · exact hj j u h hu
        · subst h; rw [hi] at hu; cases hu; rw [hi']; rfl
      · have hf := find_first (p := fun v => !intV v) hi (by rw [hi']; rfl) hj
        rcases k with ⟨x, y, a, rfl, rfl, rfl, _⟩ | ⟨v', h1, h2⟩
        · simp [List.find?, intV] at hf
        · rw [hf] at h1; cases h1
          exact h2.mono s0
    · rintro σ H1 ⟨⟨v0, rfl⟩, rfl, hj⟩
      rcases k with ⟨x, y, a, rfl, rfl, rfl, k⟩ | ⟨v', h1, h2⟩
      · have np : p ≠ t := ne_of_none hp ht
        refine ⟨_, rfl, _, rfl, p, T.C_Place, dx, [], rfl, (by rw [upd_ne np]; exact hp), T.cl_Place, T.na_Place_x, (by decide), ?_⟩
        refine ⟨_, rfl, _, rfl, p, T.C_Place, dx, _, rfl, upd_same, T.cl_Place, T.na_Place_y, (by show 1 < 1000; decide), ?_⟩
        refine ⟨_, rfl, _, rfl, p, T.C_Place, dx, _, rfl, upd_same, T.cl_Place, T.na_Place_area, (by have h1 := length_putF "y" (V.int y) (putF "x" (V.int x) []); have h2 := length_putF "x" (V.int x) []; have h3 : ([] : List (Str × V)).length = 0 := rfl; omega), ?_⟩
        refine k _ (fun b o nb e => ?_) ?_
        · rw [upd_ne nb, upd_ne nb, upd_ne nb, upd_ne (ne_of_none e ht)]
          exact e
        · rw [upd_same, putF3]
      · have hm := List.find?_some h1
        have hmem := List.mem_of_find?_eq_some h1
        obtain ⟨j, hj1, hj2⟩ := List.getElem_of_mem hmem
        have := hj j v' hj1 (by rw [List.getElem?_eq_getElem hj1, hj2])
        rw [this] at hm
        cases hm
end
end AW

set_option linter.all false
set_option maxRecDepth 100000
set_option maxHeartbeats 4000000
namespace AW
open PySem PySem.Spec PyProof.Rows L2
theorem ifT {c : Bool} {A B : Prop} (hc : c = true) (h : A) : if c = true then A else B := by
  rw [if_pos hc]
  exact h
theorem ifN {c : Bool} {A B : Prop} (hc : c = false) (h : B) : if c = true then A else B := by
  rw [hc, if_neg Bool.false_ne_true]
  exact h
def Bd (k : Nat) (i : Int) : Prop := i.natAbs < 2 ^ k
theorem Bd.mono {k m : Nat} {i : Int} (h : Bd k i) (l : k ≤ m) : Bd m i := Nat.lt_of_lt_of_le h (Nat.pow_le_pow_right (by decide) l)
theorem Bd.neg {k : Nat} {i : Int} (h : Bd k i) : Bd k (-i) := by unfold Bd; rw [Int.natAbs_neg]; exact h
theorem Bd.add {k : Nat} {i j : Int} (h : Bd k i) (g : Bd k j) : Bd (k + 1) (i + j) := by
  unfold Bd at *
  rw [Nat.pow_succ]
  omega
theorem Bd.sub {k : Nat} {i j : Int} (h : Bd k i) (g : Bd k j) : Bd (k + 1) (i - j) := by
  unfold Bd at *
  rw [Nat.pow_succ]
  omega
theorem Bd.mul {k m : Nat} {i j : Int} (h : Bd k i) (g : Bd m j) : Bd (k + m) (i * j) := wide_lt h g
abbrev BIG : Nat := 400000
theorem big_mul {i j : Int} (h : Bd BIG i) (g : Bd BIG j) : CMulW i j := wide_mul h g (by decide) (by decide) (by decide)
section
variable {P : Program} {w : World} {K : PySem.W.Frag} {mg : Str → Option Value} {base : Heap}
/-- v is no Place -/
def NoP (T : Tx K mg) (H : Hp) (v : V) : Prop := ∃ t, TyX K H v t ∧ TyT T t ∧ isP T t = false
theorem NoP.vl {T : Tx K mg} {H : Hp} {v : V} (h : NoP T H v) : Vl T H v := let ⟨t, a, b, _⟩ := h; ⟨t, a, b⟩
theorem NoP.mono {T : Tx K mg} {H H' : Hp} {v : V} (s : Same H H') (h : NoP T H v) : NoP T H' v := let ⟨t, a, b, c⟩ := h; ⟨t, TyX.mono s a, b, c⟩
/-- isinstance(v, Place): no -/
theorem kit_no (T : Tx K mg) {t : Value} (ht : TyT T t) (e : isP T t = false) : PySem.W.kitOne K t (.ref T.C_Place) = some false := by rw [kit_place T ht, e]
def sp_Place_eq (T : Tx K mg) : Sp := fun vs H Q _ => ∃ (p : Addr) (v : V) (x y a : Int), vs = [.ref p, v] ∧ PlAt T H p x y a ∧
  ((∃ q x' y' a', v = .ref q ∧ PlAt T H q x' y' a' ∧ Q (.bl (decide (x = x' ∧ y = y' ∧ a = a'))) H) ∨ (NoP T H v ∧ Q (.bl false) H))
theorem ok_Place_eq (T : Tx K mg) : FnOk P w K mg base (L2.CX P w) 1 T.a_Place_eq T.d_Place_eq P_Place_eq (sp_Place_eq T) := by
  refine T.F_Place_eq.okX sc_Place_eq (fun vs H Q E h => ?_) (fun cdv A outer s H vs Q E hr h => ?_)
  · obtain ⟨p, v, x, y, a, rfl, _⟩ := h
    rfl
  · obtain ⟨p, v, x, y, a, rfl, hp, k⟩ := h
    refine ⟨_, pss_one (ps_ret (pe_and (pe_callB call_isi rfl T.n_isinstance (by decide +kernel) (pa_cons (pv 1) (pa_cons (pe_glob (v := .ref T.C_Place) rfl T.g_C_Place rfl) pa_nil)))
      (pe_and (pe_cmp (pc_eqI (pe_fld (pv 0) rfl) (pe_fld (pv 1) rfl)) rfl) (pe_and (pe_cmp (pc_eqI (pe_fld (pv 0) rfl) (pe_fld (pv 1) rfl)) rfl) (pe_one (pe_cmp (pc_eqI (pe_fld (pv 0) rfl) (pe_fld (pv 1) rfl)) rfl)))))), ?_⟩
    obtain ⟨dx, ep⟩ := id hp
    rcases k with ⟨q, x', y', a', rfl, hq, k⟩ | ⟨⟨t, ty, ht, e⟩, k⟩
    · obtain ⟨dy, eq⟩ := id hq
      refine ⟨_, rfl, _, _, _, _, true, rfl, .own _, hq.ty, kit_self, _, rfl, iteT ?_⟩
      refine ⟨_, rfl, p, _, dx, _, _, rfl, ep, T.cl_Place, T.na_Place_x, flds_x x y a, _, rfl, q, _, dy, _, _, rfl, eq, T.cl_Place, T.na_Place_x, flds_x x' y' a', _, _, rfl, rfl, _, rfl, ?_⟩
      by_cases h1 : x = x'
      · refine ifT (decide_eq_true h1) ⟨_, rfl, p, _, dx, _, _, rfl, ep, T.cl_Place, T.na_Place_y, flds_y x y a, _, rfl, q, _, dy, _, _, rfl, eq, T.cl_Place, T.na_Place_y, flds_y x' y' a', _, _, rfl, rfl, _, rfl, ?_⟩
        by_cases h2 : y = y'
        · refine ifT (decide_eq_true h2) ⟨_, rfl, p, _, dx, _, _, rfl, ep, T.cl_Place, T.na_Place_area, flds_a x y a, _, rfl, q, _, dy, _, _, rfl, eq, T.cl_Place, T.na_Place_area, flds_a x' y' a', _, _, rfl, rfl, ?_⟩
          have e : decide (a = a') = decide (x = x' ∧ y = y' ∧ a = a') := by simp [h1, h2]
          rw [← e] at k
          exact k
        · refine ifN (decide_eq_false h2) ?_
          have e : decide (x = x' ∧ y = y' ∧ a = a') = false := by simp [h2]
          rw [e] at k
          exact k
      · refine ifN (decide_eq_false h1) ?_
        have e : decide (x = x' ∧ y = y' ∧ a = a') = false := by simp [h1]
        rw [e] at k
        exact k
    · exact ⟨_, rfl, _, _, _, _, false, rfl, .own _, ty, kit_no T ht e, _, rfl, iteF k⟩
def sp_check_place (T : Tx K mg) : Sp := fun vs H Q E => ∃ v, vs = [v] ∧ ((∃ q x y a, v = .ref q ∧ PlAt T H q x y a ∧ Q .non H) ∨ (NoP T H v ∧ Err H E T.C_BadPlace "value" v))
theorem ok_check_place (T : Tx K mg) : FnOk P w K mg base (L2.CX P w) 3 T.a_check_place T.d_check_place P_check_place (sp_check_place T) := by
  have G2 : FnOk P w K mg base (L2.CX P w) 1 _ _ _ _ := ok_BadPlace_init T
  refine T.F_check_place.okX sc_check_place (fun vs H Q E h => ?_) (fun cdv A outer s H vs Q E hr h => ?_)
  · obtain ⟨v, rfl, _⟩ := h
    rfl
  · obtain ⟨v, rfl, k⟩ := h
    refine ⟨_, pss_one (ps_if (pt_not (pt_val (pe_callB call_isi rfl T.n_isinstance (by decide +kernel) (pa_cons (pv 0) (pa_cons (pe_glob (v := .ref T.C_Place) rfl T.g_C_Place rfl) pa_nil)))))
      (pss_one (ps_raise rfl (takes_of rfl rfl rfl rfl) (pmk_oex T.X_BadPlace T.ei_BadPlace T.et_BadPlace G2 (hr.mono (by decide)) T.b_BadPlace_init .nil passL rfl T.g_C_BadPlace (by exact pa_cons (pv 0) pa_nil)))) pss_nil), ?_⟩
    rcases k with ⟨q, x', y', a', rfl, hq, k⟩ | ⟨⟨t, ty, ht, e⟩, k⟩
    · exact ⟨_, rfl, _, _, _, _, true, rfl, .own _, hq.ty, kit_self, _, rfl, iteF k⟩
    · refine ⟨_, rfl, _, _, _, _, false, rfl, .own _, ty, kit_no T ht e, _, rfl, iteT ?_⟩
      exact mk_einit (v := v) ⟨_, rfl, rfl, rfl⟩ k (fun Q Q' h1 ⟨x, e, h2⟩ => ⟨x, e, h1 _ _ h2⟩)
end
end AW

set_option linter.all false
set_option maxRecDepth 100000
set_option maxHeartbeats 4000000
namespace AW
open PySem PySem.Spec PyProof.Rows L2
variable [Tbs]
theorem Bd.add2 {k m : Nat} {i j : Int} (h : Bd k i) (g : Bd m j) : Bd (k + m + 1) (i + j) := Bd.add (h.mono (Nat.le_add_right k m)) (g.mono (Nat.le_add_left m k))
theorem Bd.sub2 {k m : Nat} {i j : Int} (h : Bd k i) (g : Bd m j) : Bd (k + m + 1) (i - j) := Bd.sub (h.mono (Nat.le_add_right k m)) (g.mono (Nat.le_add_left m k))
theorem Bd.fdiv {k : Nat} {i j : Int} (h : Bd k i) : Bd k (i.fdiv j) := by
  unfold Bd at *
  have : (i.fdiv j).natAbs ≤ i.natAbs := Int.natAbs_fdiv_le_natAbs i j
  omega
theorem Bd.lit {i : Int} (k : Nat) (h : decide (i.natAbs < 2 ^ k) = true) : Bd k i := by unfold Bd; exact of_decide_eq_true h
theorem Bd.of_lt {k : Nat} {i n : Int} (h0 : 0 ≤ i) (h1 : i < n) (h : Bd k n) : Bd k i := by unfold Bd at *; omega
theorem cmc {i j : Int} (h : Bd BIG i) (g : Bd BIG j) : CMulW i j := big_mul h g
section
variable {P : Program} {w : World} {K : PySem.W.Frag} {mg : Str → Option Value} {base : Heap} {E E' : XK} {e : EW} {ρ : List (Option D)} {B : Int} {k : KD} {κ : KS} {ta tb : TE} {t : TA}
def pl (T : Tx K mg) (x y a : Int) : D := .ins T.C_Place ["x", "y", "area"] [.int x, .int y, .int a]
theorem Rep.pl {T : Tx K mg} {G : Hp} {x y a : Int} {v : V} (h : Rep K G B (AW.pl T x y a) v) : ∃ p, v = .ref p ∧ PlAt T G p x y a := by
  obtain ⟨p, dx, vs, rfl, hp, hl, hr⟩ := h
  obtain ⟨_, _, rfl, rfl, _, _, rfl, rfl, _, _, rfl, rfl, rfl⟩ := hr
  exact ⟨p, rfl, dx, hp⟩
theorem PlAt.sub {T : Tx K mg} {G H : Hp} {x y a : Int} {p : Addr} (s : Sub G H) (h : PlAt T G p x y a) : PlAt T H p x y a := let ⟨dx, e⟩ := h; ⟨dx, s _ _ e⟩
theorem we_fx (T : Tx K mg) (h : We K E e ta ρ B fun d B1 => ∃ x y a, d = pl T x y a ∧ k (.int x) B1) : We K E e (tFld K ta "x") ρ B k :=
  we_fld (h.imp fun d B1 ⟨x, y, a, ed, hk⟩ => ⟨_, _, _, .int x, ed, T.cl_Place, T.na_Place_x, by simp [List.lookup], hk⟩)
theorem we_fy (T : Tx K mg) (h : We K E e ta ρ B fun d B1 => ∃ x y a, d = pl T x y a ∧ k (.int y) B1) : We K E e (tFld K ta "y") ρ B k :=
  we_fld (h.imp fun d B1 ⟨x, y, a, ed, hk⟩ => ⟨_, _, _, .int y, ed, T.cl_Place, T.na_Place_y, by
    have h1 : (("y" : Str) == "x") = false := by decide +kernel
    simp [List.lookup, h1], hk⟩)
theorem we_fa (T : Tx K mg) (h : We K E e ta ρ B fun d B1 => ∃ x y a, d = pl T x y a ∧ k (.int a) B1) : We K E e (tFld K ta "area") ρ B k :=
  we_fld (h.imp fun d B1 ⟨x, y, a, ed, hk⟩ => ⟨_, _, _, .int a, ed, T.cl_Place, T.na_Place_area, by
    have h1 : (("area" : Str) == "x") = false := by decide +kernel
    have h2 : (("area" : Str) == "y") = false := by decide +kernel
    simp [List.lookup, h1, h2], hk⟩)
def core : D → D
  | .at_ _ d => core d
  | .tb d => core d
  | d => d
theorem Rep.core {G : Hp} : ∀ {d : D} {v : V}, Rep K G B d v → Rep K G B (AW.core d) v
  | .at_ _ d, _, ⟨_, h⟩ => Rep.core (d := d) h
  | .tb d, _, ⟨_, h⟩ => Rep.core (d := d) h
  | .non, _, h => h
  | .bl _, _, h => h
  | .int _, _, h => h
  | .str _, _, h => h
  | .tup _, _, h => h
  | .lst _, _, h => h
  | .ins _ _ _, _, h => h
  | .pen _ _, _, h => h
  | .scr _, _, h => h
  | .val _, _, h => h
  | .lam _ _, _, h => h
  | .edk, _, h => h
  | .dk _ _, _, h => h
  | .kt _, _, h => h
  | .dt _ _ _, _, h => h
/-- no object of a class of one's own -/
def plainD : D → Bool
  | .ins _ _ _ => false
  | .pen _ _ => false
  | .scr _ => false
  | .val _ => false
  | .lam _ _ => false
  | .dk _ _ => false
  | .kt _ => false
  | .dt _ _ _ => false
  | .at_ _ d => plainD d
  | .tb d => plainD d
  | _ => true
theorem tyx_tup {K : PySem.W.Frag} {H : Hp} {a : Addr} {xs : List V} (h : SqT K H a xs) : TyX K H (.ref a) (.type "tuple") := by
  rcases h with (h | ⟨o, h⟩) | ⟨o, its, n, hk, hc, _⟩
  · exact .base (.tup h)
  · exact .fTuple h
  · exact .kTuple hk hc
theorem Rep.nop {T : Tx K mg} {G H : Hp} (s : Sub G H) : ∀ {d : D} {v : V}, Rep K G B d v → plainD d = true → NoP T H v
  | .non, _, h, _ => by rw [show _ = _ from h]; exact ⟨_, .base .non, .inr (.inl rfl), rfl⟩
  | .bl b, _, h, _ => by rw [show _ = _ from h]; exact ⟨_, .base (.bl b), .inr (.inr (.inl rfl)), rfl⟩
  | .int i, _, h, _ => by rw [show _ = _ from h]; exact ⟨_, .base (.int i), .inr (.inr (.inr (.inl rfl))), rfl⟩
  | .str i, _, h, _ => by rw [show _ = _ from h]; exact ⟨_, .base (.str i), .inr (.inr (.inr (.inr (.inl rfl)))), rfl⟩
  | .lst _, _, ⟨a, vs, e, h, hr⟩, _ => by rw [e]; exact ⟨_, .base (.lst (s _ _ h)), .inr (.inr (.inr (.inr (.inr (.inl rfl))))), rfl⟩
  | .tup _, _, ⟨a, vs, e, h, hr⟩, _ => by rw [e]; exact ⟨_, tyx_tup ((Le.of_sub (B := B) (B' := B) s (Int.le_refl _)).seqT h), .inr (.inr (.inr (.inr (.inr (.inr (.inl rfl)))))), rfl⟩
  | .ins _ _ _, _, _, o => nomatch o
  | .pen _ _, _, _, o => nomatch o
  | .scr _, _, _, o => nomatch o
  | .val _, _, _, o => nomatch o
  | .lam _ _, _, _, o => nomatch o
  | .dk _ _, _, _, o => nomatch o
  | .kt _, _, _, o => nomatch o
  | .dt _ _ _, _, _, o => nomatch o
  | .at_ _ d, _, ⟨_, h⟩, o => Rep.nop s (d := d) h o
  | .tb d, _, ⟨_, h⟩, o => Rep.nop s (d := d) h o
  | .edk, _, ⟨a, e, h⟩, _ => by rw [e]; exact ⟨_, .base (.dK (s _ _ h)), .inr (.inr (.inr (.inr (.inr (.inr (.inr rfl)))))), rfl⟩
/-- a wish for an error of one field -/
theorem Err.ofX {H G : Hp} {C : Addr} {f : Str} {d : D} {v : V} (s : Sub G H) (r : Rep K G B d v) (x : XOk K E e G H B) (h : e C (some ([f], [d])) B) : Err H E C f v := fun dx H' ss nd hd => by
  have e1 : Ext G H B G H' B := ⟨Le.refl _ _, fun a o z => ss _ _ (s _ _ z), fun a o z n _ => ⟨ss _ _ z, n⟩⟩
  exact x C _ B G H' h e1 dx [v] hd rfl ⟨v, [], rfl, r, rfl⟩
def pr_check_place (T : Tx K mg) : Pr := fun ds B k e => ∃ d, ds = [d] ∧ ((∃ x y a, core d = pl T x y a ∧ k .non B) ∨ (plainD d = true ∧ e T.C_BadPlace (some (["value"], [d])) B))
theorem okD_check_place (T : Tx K mg) : FnOk P w K mg base (L2.CX P w) 3 T.a_check_place T.d_check_place P_check_place (spD K (pr_check_place T)) :=
  (ok_check_place T).imp fun vs H Q E ⟨G, ds, B, k, e, hs, hr, ⟨d, ed, h⟩, hk, hx⟩ => by
    subst ed
    obtain ⟨v, _, rfl, rv, rfl⟩ := hr
    refine ⟨v, rfl, ?_⟩
    rcases h with ⟨x, y, a, ec, h⟩ | ⟨h1, h2⟩
    · have rc := rv.core
      rw [ec] at rc
      obtain ⟨p, rfl, hp⟩ := rc.pl
      exact .inl ⟨p, x, y, a, rfl, hp.sub hs, hk _ _ _ _ _ h (Ext.refl hs) rfl⟩
    · exact .inr ⟨rv.nop hs h1, Err.ofX hs rv hx h2⟩
def intD : D → Bool
  | .int _ => true
  | .val v => AW.intV v
  | .at_ _ d => intD d
  | .tb d => intD d
  | _ => false
theorem Rep.intV {G : Hp} : ∀ {d : D} {v : V}, Rep K G B d v → AW.intV v = intD d
  | .non, _, h => by rw [show _ = _ from h]; rfl
  | .bl b, _, h => by rw [show _ = _ from h]; rfl
  | .int i, _, h => by rw [show _ = _ from h]; rfl
  | .str i, _, h => by rw [show _ = _ from h]; rfl
  | .lst _, _, ⟨a, vs, e, h, hr⟩ => by rw [e]; rfl
  | .tup _, _, ⟨a, vs, e, h, hr⟩ => by rw [e]; rfl
  | .ins _ _ _, _, ⟨a, dx, vs, e, _⟩ => by rw [e]; rfl
  | .pen _ _, _, ⟨_, a, _, _, _, _, e, _⟩ => by rw [e]; rfl
  | .scr _, _, ⟨_, a, e, _⟩ => by rw [e]; rfl
  | .lam _ _, _, ⟨f, d, e, _⟩ => by rw [e]; rfl
  | .dk _ _, _, ⟨a, _, e, _⟩ => by rw [e]; rfl
  | .kt _, _, ⟨a, e, _⟩ => by rw [e]; rfl
  | .dt _ _ _, _, ⟨a, _, e, _⟩ => by rw [e]; rfl
  | .at_ _ d, _, ⟨_, h⟩ => Rep.intV (d := d) h
  | .tb d, _, ⟨_, h⟩ => Rep.intV (d := d) h
  | .edk, _, ⟨a, e, _⟩ => by rw [e]; rfl
  | .val _, _, h => by rw [show _ = _ from h]; rfl
def plD (T : Tx K mg) (d : D) : Prop := plainD d = true ∨ ∃ x y a, core d = pl T x y a
theorem Rep.vl {T : Tx K mg} {G H : Hp} {d : D} {v : V} (s : Sub G H) (r : Rep K G B d v) (h : plD T d) : Vl T H v := by
  rcases h with h | ⟨x, y, a, ec⟩
  · exact (r.nop s h).vl
  · have rc := r.core
    rw [ec] at rc
    obtain ⟨p, rfl, hp⟩ := rc.pl
    exact (hp.sub s).vl
def pr_check_integer (T : Tx K mg) : Pr := fun ds B k e => ∃ d, ds = [d] ∧ plD T d ∧ (intD d = true → k .non B) ∧ (intD d = false → e T.C_BadNumber (some (["value"], [d])) B)
theorem okD_check_integer (T : Tx K mg) : FnOk P w K mg base (L2.CX P w) 3 T.a_check_integer T.d_check_integer P_check_integer (spD K (pr_check_integer T)) :=
  (ok_check_integer T).imp fun vs H Q E ⟨G, ds, B, k, e, hs, hr, ⟨d, ed, hd, h1, h2⟩, hk, hx⟩ => by
    subst ed
    obtain ⟨v, _, rfl, rv, rfl⟩ := hr
    refine ⟨v, rfl, rv.vl hs hd, fun z => ?_, fun z => ?_⟩
    · rw [rv.intV] at z
      exact hk _ _ _ _ _ (h1 z) (Ext.refl hs) rfl
    · rw [rv.intV] at z
      exact Err.ofX hs rv hx (h2 z)
def pr_Place_init : List D → Int → (List D → Int → Prop) → EW → Prop := fun ds B k e => ∃ x y a : Int, ds = [.int x, .int y, .int a] ∧ k [.int x, .int y, .int a] B
theorem okD_Place_init (T : Tx K mg) : FnOk P w K mg base (L2.CX P w) 4 T.a_Place_init T.d_Place_init P_Place_init (spI K T.C_Place ["x", "y", "area"] pr_Place_init) :=
  (ok_Place_init T).imp fun vs H Q E ⟨p, dx, ws, G, ds, B, k, e, ev, hp, gp, gd, ne, hd, hs, hr, ⟨x, y, a, ed, h⟩, hk, hx⟩ => by
    subst ed
    subst ev
    obtain ⟨_, _, rfl, rfl, _, _, rfl, rfl, _, _, rfl, rfl, rfl⟩ := hr
    refine ⟨p, dx, _, _, _, rfl, hp, .int _, .int _, .int _, .inl ⟨x, y, a, rfl, rfl, rfl, fun H' s z => ?_⟩⟩
    exact hk _ [.int x, .int y, .int a] B G H' h (Le.refl _ _) (fun b o q => s b o (ne_of_none q gp) (hs _ _ q)) (fun b o q n nb _ => ⟨s b o nb q, n⟩) gp z rfl ⟨_, _, rfl, rfl, _, _, rfl, rfl, _, _, rfl, rfl, rfl⟩
variable {pr : Pr}
/-- an own operator of a place -/
theorem ro_own (T : Tx K mg) {x y a x' y' a' : Int} (h : pr [pl T x y a, pl T x' y' a'] B k noE) : Ro K E e (rOpO K T.C_Place .Mult (spD K pr) E') (pl T x y a) (pl T x' y' a') B k := fun u v H G Q s r1 r2 _ q => by
  obtain ⟨p, rfl, dx, hp⟩ := r1.pl
  obtain ⟨p', rfl, hp'⟩ := r2.pl
  exact ⟨p, dx, _, _, rfl, s _ _ hp, (hp'.sub s).ty, .same, G, [pl T x y a, pl T x' y' a'], B, k, noE, s, ⟨_, _, rfl, r1, _, _, rfl, r2, rfl⟩, h, q, XOk.no⟩
theorem we_place (T : Tx K mg) (h : Wa K E e t ρ B fun ds B1 => ∃ x y a : Int, ds = [.int x, .int y, .int a] ∧ k (pl T x y a) B1) : We K E e (tMake T.C_Place (spI K T.C_Place ["x", "y", "area"] pr_Place_init) [] E' t) ρ B k :=
  we_make fun σ H G Q s en x q => h σ H G Q s en x fun ds vs B1 G1 H1 ⟨x, y, a, ed, hk⟩ e1 r1 => q ds vs B1 G1 H1 ⟨x, y, a, ed, hk⟩ e1 r1
def isIB : D → Bool
  | .int _ => true
  | .bl _ => true
  | .at_ _ d => isIB d
  | .tb d => isIB d
  | _ => false
def isBB : D → Bool
  | .bl _ => true
  | .at_ _ d => isBB d
  | .tb d => isBB d
  | _ => false
theorem Rep.isIB {T : Tx K mg} {G H : Hp} (s : Sub G H) : ∀ {d : D} {v : V}, Rep K G B d v → plainD d = true → ∃ ty, TyX K H v ty ∧ TyT T ty ∧ isI ty = AW.isIB d ∧ isB ty = AW.isBB d ∧ isP T ty = false
  | .non, _, h, _ => by rw [show _ = _ from h]; exact ⟨_, .base .non, .inr (.inl rfl), rfl, rfl, rfl⟩
  | .bl b, _, h, _ => by rw [show _ = _ from h]; exact ⟨_, .base (.bl b), .inr (.inr (.inl rfl)), rfl, rfl, rfl⟩
  | .int i, _, h, _ => by rw [show _ = _ from h]; exact ⟨_, .base (.int i), .inr (.inr (.inr (.inl rfl))), rfl, rfl, rfl⟩
  | .str i, _, h, _ => by rw [show _ = _ from h]; exact ⟨_, .base (.str i), .inr (.inr (.inr (.inr (.inl rfl)))), rfl, rfl, rfl⟩
  | .lst _, _, ⟨a, vs, e, h, hr⟩, _ => by rw [e]; exact ⟨_, .base (.lst (s _ _ h)), .inr (.inr (.inr (.inr (.inr (.inl rfl))))), rfl, rfl, rfl⟩
  | .tup _, _, ⟨a, vs, e, h, hr⟩, _ => by rw [e]; exact ⟨_, tyx_tup ((Le.of_sub (B := B) (B' := B) s (Int.le_refl _)).seqT h), .inr (.inr (.inr (.inr (.inr (.inr (.inl rfl)))))), rfl, rfl, rfl⟩
  | .dk _ _, _, _, o => nomatch o
  | .kt _, _, _, o => nomatch o
  | .dt _ _ _, _, _, o => nomatch o
  | .at_ _ d, _, ⟨_, h⟩, o => Rep.isIB s (d := d) h o
  | .tb d, _, ⟨_, h⟩, o => Rep.isIB s (d := d) h o
  | .edk, _, ⟨a, e, h⟩, _ => by rw [e]; exact ⟨_, .base (.dK (s _ _ h)), .inr (.inr (.inr (.inr (.inr (.inr (.inr rfl)))))), rfl, rfl, rfl⟩
  | .ins _ _ _, _, _, o => nomatch o
  | .pen _ _, _, _, o => nomatch o
  | .scr _, _, _, o => nomatch o
  | .val _, _, _, o => nomatch o
  | .lam _ _, _, _, o => nomatch o
theorem we_isi_Place (T : Tx K mg) (h : Wa K E e t ρ B fun ds B1 => ∃ d, ds = [d, .val (.ref T.C_Place)] ∧ ((plainD d = true ∧ k (.bl false) B1) ∨ ((∃ x y a, core d = pl T x y a) ∧ k (.bl true) B1))) : We K E e (tCB (rIsi K) t) ρ B k :=
  we_cb fun σ H G Q s en x q => h σ H G Q s en x fun ds vs B1 G1 H1 ⟨d, ed, h1⟩ e1 r1 => q ds vs B1 G1 H1 (fun ws H2 G2 Q2 s2 r2 q2 => by
    subst ed
    obtain ⟨v, _, rfl, rv, c, _, rfl, rc, rfl⟩ := r2
    rw [show c = _ from rc]
    rcases h1 with ⟨p, hk⟩ | ⟨⟨x, y, a, ec⟩, hk⟩
    · obtain ⟨ty, y1, y2, _, _, y5⟩ := rv.isIB (T := T) s2 p
      exact ⟨_, _, _, _, false, rfl, .own _, y1, kit_no T y2 y5, q2 _ _ _ _ _ hk (Ext.refl s2) rfl⟩
    · have rr := rv.core
      rw [ec] at rr
      obtain ⟨p, rfl, hp⟩ := rr.pl
      exact ⟨_, _, _, _, true, rfl, .own _, (hp.sub s2).ty, kit_self, q2 _ _ _ _ _ hk (Ext.refl s2) rfl⟩) e1 r1
theorem we_isi_int (T : Tx K mg) (h : Wa K E e t ρ B fun ds B1 => ∃ d, ds = [d, .val (.ty "int")] ∧ plainD d = true ∧ k (.bl (isIB d)) B1) : We K E e (tCB (rIsi K) t) ρ B k :=
  we_cb fun σ H G Q s en x q => h σ H G Q s en x fun ds vs B1 G1 H1 ⟨d, ed, p, hk⟩ e1 r1 => q ds vs B1 G1 H1 (fun ws H2 G2 Q2 s2 r2 q2 => by
    subst ed
    obtain ⟨v, _, rfl, rv, c, _, rfl, rc, rfl⟩ := r2
    rw [show c = _ from rc]
    obtain ⟨ty, y1, y2, y3, _, _⟩ := rv.isIB (T := T) s2 p
    exact ⟨_, _, _, _, _, rfl, .ty _, y1, kit_int T y2, q2 (.bl _) _ _ _ _ (y3 ▸ hk) (Ext.refl s2) rfl⟩) e1 r1
theorem we_isi_bool (T : Tx K mg) (h : Wa K E e t ρ B fun ds B1 => ∃ d, ds = [d, .val (.ty "bool")] ∧ plainD d = true ∧ k (.bl (isBB d)) B1) : We K E e (tCB (rIsi K) t) ρ B k :=
  we_cb fun σ H G Q s en x q => h σ H G Q s en x fun ds vs B1 G1 H1 ⟨d, ed, p, hk⟩ e1 r1 => q ds vs B1 G1 H1 (fun ws H2 G2 Q2 s2 r2 q2 => by
    subst ed
    obtain ⟨v, _, rfl, rv, c, _, rfl, rc, rfl⟩ := r2
    rw [show c = _ from rc]
    obtain ⟨ty, y1, y2, _, y4, _⟩ := rv.isIB (T := T) s2 p
    exact ⟨_, _, _, _, _, rfl, .ty _, y1, kit_bool T y2, q2 (.bl _) _ _ _ _ (y4 ▸ hk) (Ext.refl s2) rfl⟩) e1 r1
end
end AW

set_option linter.all false
set_option maxRecDepth 100000
set_option maxHeartbeats 4000000
namespace AW
open PySem PySem.Spec PyProof.Rows L2
abbrev kC : Key := Sum.inr "cells"
abbrev kS : Key := Sum.inr "at"
abbrev kR : Key := Sum.inr "rest"
theorem kCS : ¬ (kC = kS) := by decide +kernel
theorem kCR : ¬ (kC = kR) := by decide +kernel
theorem kSR : ¬ (kS = kR) := by decide +kernel
theorem kRS : ¬ (kR = kS) := by decide +kernel
def penD (c : Addr) (s r : Int) : List (Key × V) := [(kC, .ref c), (kS, .int s), (kR, .int r)]
theorem pen_c (c : Addr) (s r : Int) : valV (penD c s r) kC = some (.ref c) := valV_pos rfl
theorem pen_s (c : Addr) (s r : Int) : valV (penD c s r) kS = some (.int s) := (valV_neg kCS).trans (valV_pos rfl)
theorem pen_r (c : Addr) (s r : Int) : valV (penD c s r) kR = some (.int r) := (valV_neg kCR).trans ((valV_neg kSR).trans (valV_pos rfl))
theorem pen_ps (c : Addr) (s r z : Int) : putK (penD c s r) kS (.int z) = penD c z r := by
  unfold putK
  rw [if_pos (by rw [valV_any, pen_s]; rfl)]
  show [if kC = kS then (kC, V.int z) else (kC, V.ref c), if kS = kS then (kS, V.int z) else (kS, V.int s), if kR = kS then (kR, V.int z) else (kR, V.int r)] = penD c z r
  rw [if_neg kCS, if_pos rfl, if_neg kRS]
  rfl
theorem pen_pr (c : Addr) (s r z : Int) : putK (penD c s r) kR (.int z) = penD c s z := by
  unfold putK
  rw [if_pos (by rw [valV_any, pen_r]; rfl)]
  show [if kC = kR then (kC, V.int z) else (kC, V.ref c), if kS = kR then (kS, V.int z) else (kS, V.int s), if kR = kR then (kR, V.int z) else (kR, V.int r)] = penD c s z
  rw [if_neg kCR, if_neg kSR, if_pos rfl]
  rfl
theorem pen_mk (c : Addr) (s r : Int) : mergeK [] [(kC, .ref c), (kS, .int s), (kR, .int r)] = penD c s r := by
  unfold mergeK
  show putK (putK (putK [] kC (.ref c)) kS (.int s)) kR (.int r) = penD c s r
  rw [L2.putK_new _ valV_nil]
  rw [L2.putK_new _ (show valV ([] ++ [(kC, V.ref c)]) kS = none from valV_neg kCS)]
  rw [L2.putK_new _ (show valV ([] ++ [(kC, V.ref c)] ++ [(kS, V.int s)]) kR = none from (valV_neg kCR).trans (valV_neg kSR))]
  rfl
/-- the pen at p: its cells, at most 63 ints; no more than B stops so far -/
structure Pen (H : Hp) (p : Addr) (B : Int) : Prop where
  at_ : ∃ (c : Addr) (ns : List Int) (s r : Int), H p = some (.dK (penD c s r)) ∧ H c = some (.lst (ns.map V.int)) ∧ (0 < ns.length ∧ ns.length ≤ 63) ∧ 0 ≤ s ∧ s ≤ B
theorem dg_c {H : Hp} {p c : Addr} {s r : Int} (e : H p = some (.dK (penD c s r))) : DGet H p (.str "cells") (some (.ref c)) := by
  have h := DGet.k (k := kC) e
  rw [pen_c] at h
  exact h
theorem dg_s {H : Hp} {p c : Addr} {s r : Int} (e : H p = some (.dK (penD c s r))) : DGet H p (.str "at") (some (.int s)) := by
  have h := DGet.k (k := kS) e
  rw [pen_s] at h
  exact h
theorem dg_r {H : Hp} {p c : Addr} {s r : Int} (e : H p = some (.dK (penD c s r))) : DGet H p (.str "rest") (some (.int r)) := by
  have h := DGet.k (k := kR) e
  rw [pen_r] at h
  exact h
theorem dp_s {H : Hp} {p c : Addr} {s r z : Int} (e : H p = some (.dK (penD c s r))) : DPut H p (.str "at") (.int z) (upd H p (.dK (penD c z r))) := by
  have h := DPut.k (k := kS) (v := .int z) e (by show 3 < sizeLine; decide)
  rw [pen_ps] at h
  exact h
theorem dp_r {H : Hp} {p c : Addr} {s r z : Int} (e : H p = some (.dK (penD c s r))) : DPut H p (.str "rest") (.int z) (upd H p (.dK (penD c s z))) := by
  have h := DPut.k (k := kR) (v := .int z) e (by show 3 < sizeLine; decide)
  rw [pen_pr] at h
  exact h
/-- all but the pen stays -/
structure But (p : Addr) (H H' : Hp) : Prop where
  st : ∀ b o, b ≠ p → H b = some o → H' b = some o
  cl : ∀ c s r, H p = some (.dK (penD c s r)) → ∃ s' r', H' p = some (.dK (penD c s' r'))
theorem But.refl {p : Addr} (H : Hp) : But p H H := ⟨fun _ _ _ h => h, fun _ s r h => ⟨s, r, h⟩⟩
theorem But.trans {p : Addr} {H H1 H2 : Hp} (a : But p H H1) (b : But p H1 H2) : But p H H2 :=
  ⟨fun c o n h => b.st c o n (a.st c o n h), fun c s r h => by
    obtain ⟨s1, r1, h1⟩ := a.cl c s r h
    exact b.cl c s1 r1 h1⟩
theorem But.of {p : Addr} {H H' : Hp} (s : Same H H') : But p H H' := ⟨fun b o _ h => s b o h, fun c z r h => ⟨z, r, s _ _ h⟩⟩
theorem penD_inj {c c' : Addr} {s r s' r' : Int} (h : penD c s r = penD c' s' r') : c = c' := by
  injection h with h1 _
  injection h1 with _ h2
  injection h2
theorem But.upd {p c : Addr} {z r z' r' : Int} {H H' : Hp} (s : But p H H') (e : H' p = some (.dK (penD c z r))) : But p H (upd H' p (.dK (penD c z' r'))) :=
  ⟨fun b u n h => by rw [upd_ne n]; exact s.st b u n h, fun c2 s2 r2 h => by
    obtain ⟨s3, r3, h3⟩ := s.cl c2 s2 r2 h
    rw [e] at h3
    injection h3 with h3
    injection h3 with h3
    rw [penD_inj h3] at *
    exact ⟨z', r', upd_same⟩⟩
theorem But.new {p q : Addr} {H H' : Hp} {o : HO} (s : But p H H') (h : H' q = none) : But p H (L2.upd H' q o) :=
  ⟨fun b u n e => by
    have e' := s.st b u n e
    rw [upd_ne (ne_of_none e' h)]
    exact e', fun c z r e => by
    obtain ⟨z1, r1, e1⟩ := s.cl c z r e
    exact ⟨z1, r1, by rw [upd_ne (ne_of_none e1 h)]; exact e1⟩⟩
theorem Pen.mono {H H' : Hp} {p : Addr} {B B' : Int} (h : Pen H p B) (l : B ≤ B') (s : Same H H') : Pen H' p B' := by
  obtain ⟨c, ns, z, r, e1, e2, h1, h2, h3⟩ := h.at_
  exact ⟨⟨c, ns, z, r, s _ _ e1, s _ _ e2, h1, h2, Int.le_trans h3 l⟩⟩
theorem Pen.le {H : Hp} {p : Addr} {B B' : Int} (h : Pen H p B) (l : B ≤ B') : Pen H p B' := h.mono l (Same.refl H)
theorem fmod_in {a b : Int} (h : 0 < b) : 0 ≤ a.fmod b ∧ a.fmod b < b := ⟨Int.fmod_nonneg_of_pos a h, Int.fmod_lt_of_pos a h⟩
section
variable {P : Program} {w : World} {K : PySem.W.Frag} {mg : Str → Option Value} {base : Heap}
def tapeN (ns : List Int) : List Int := if ns = [] then [0] else ns
theorem tapeN_len {ns : List Int} (h : ns.length ≤ 63) : 0 < (tapeN ns).length ∧ (tapeN ns).length ≤ 63 := by
  unfold tapeN
  split
  · exact ⟨by decide, by decide⟩
  · rename_i h0
    exact ⟨List.length_pos_iff.mpr h0, h⟩
def sp_l_begin (T : Tx K mg) : Sp := fun vs H Q E => ∃ (a : Addr) (ns : List Int), vs = [.ref a] ∧ SqL K H a (ns.map V.int) ∧ ns.length ≤ 63 ∧ ∀ p c H', Same H H' → H p = none → H c = none → c ≠ p → H' p = some (.dK (penD c 0 0)) → H' c = some (.lst ((tapeN ns).map V.int)) → Q (.ref p) H'
theorem ok_l_begin (T : Tx K mg) : FnOk P w K mg base (L2.CX P w) 1 T.a_l_begin T.d_l_begin P_l_begin (sp_l_begin T) := by
  refine T.F_l_begin.okX sc_l_begin (fun vs H Q E h => ?_) (fun cdv A outer s H vs Q E hr h => ?_)
  · obtain ⟨a, ns, rfl, _⟩ := h
    rfl
  · obtain ⟨a, ns, rfl, hS, hlen, k⟩ := h
    refine ⟨_, (pss_one (ps_ret (pe_disp (pps_cons pe_str (pe_op op_cat (pe_callTy call_list_of (by rfl) T.n_list (by decide +kernel) (pa_cons (pe_slice sl_list (pv 0) po_none (po_some pe_int)) pa_nil)) (pe_op op_rep (pe_lst (pa_cons pe_int pa_nil)) (pe_callTy call_int1 (by rfl) T.n_int (by decide +kernel) (pa_cons (pe_cmpR op_eq (pe_callB call_len_seq (by rfl) T.n_len (by decide +kernel) (pa_cons (pv 0) pa_nil)) pe_int (nomark _)) pa_nil)))) (pps_cons pe_str pe_int (pps_cons pe_str pe_int pps_nil))) (by rfl) (by rfl) (fun z => by cases z) (by decide)))), ?_⟩
    refine fun p np => ?_
    have s1 : Same H (upd H p (.dK [])) := Same.laid np
    have hcut : cutV (ns.map V.int) none (some 63) = ns.map V.int := by
      unfold cutV
      have e1 : HT.sIx (ns.map V.int).length 0 none = 0 := rfl
      have e2 : (ns.map V.int).length ≤ 63 := by rw [List.length_map]; exact hlen
      rw [e1]
      show ((ns.map V.int).drop 0).take _ = _
      rw [List.drop_zero, List.take_of_length_le]
      have e3 : HT.sIx (ns.map V.int).length (ns.map V.int).length (some 63) = (ns.map V.int).length := by
        simp [HT.sIx]
        omega
      rw [e3]
      omega
    have hp1 : upd H p (.dK []) p = some (.dK []) := upd_same
    have hS1 := s1.seq hS
    have back : ∀ {X : Hp} {b : Addr}, Same H X → X b = none → H b = none := fun {X b} sx z => by
      cases w : H b with
      | none => rfl
      | some u => rw [sx _ _ w] at z; cases z
    generalize upd H p (.dK []) = H1 at s1 hp1 hS1 ⊢
    refine ⟨_, rfl, _, rfl, a, _, rfl, hS1, fun q nq => ⟨q, _, rfl, .inl (.of upd_same), fun l nl => ?_⟩⟩
    rw [hcut] at nl ⊢
    have s2 : Same H1 (upd (upd H1 q (.lst (ns.map V.int))) l (.lst (ns.map V.int))) := (Same.laid nq).trans (Same.laid nl)
    have hl2 : upd (upd H1 q (.lst (ns.map V.int))) l (.lst (ns.map V.int)) l = some (.lst (ns.map V.int)) := upd_same
    have hp2 := s2 _ _ hp1
    have hS2 := s2.seq hS1
    have s3 := s1.trans s2
    generalize upd (upd H1 q (.lst (ns.map V.int))) l (.lst (ns.map V.int)) = H2 at s3 hl2 hp2 hS2 ⊢
    clear s2
    refine ⟨(by show 1 ≤ sizeLine; decide), fun m nm => ?_⟩
    have s4 : Same H2 (upd H2 m (.lst [V.int 0])) := Same.laid nm
    have hm4 : upd H2 m (.lst [V.int 0]) m = some (.lst [V.int 0]) := upd_same
    have hl4 := s4 _ _ hl2
    have hp4 := s4 _ _ hp2
    have hS4 := s4.seq hS2
    have s5 := s3.trans s4
    generalize upd H2 m (.lst [V.int 0]) = H4 at s5 hm4 hl4 hp4 hS4 ⊢
    clear s4
    refine ⟨_, rfl, a, _, rfl, .inl hS4, rfl, .inr ⟨_, rfl, ?_⟩⟩
    have ev : decide (V.int (((ns.map V.int).length : Nat) : Int) = V.int 0) = decide (((ns.length : Nat) : Int) = 0) := by
      rw [List.length_map]
      exact decide_eq_decide.mpr ⟨fun h => by injection h, fun h => by rw [h]⟩
    rw [ev]
    have hrep : ∃ (kk : Int), (if decide (((ns.length : Nat) : Int) = 0) = true then (1 : Int) else 0) = kk ∧ -(2 ^ 63) ≤ kk ∧ kk < 2 ^ 63 ∧ ([V.int 0] : List V).length * kk.toNat ≤ sizeLine ∧ ns.map V.int ++ (List.replicate kk.toNat [V.int 0]).flatten = (tapeN ns).map V.int ∧ ns.length + (List.replicate kk.toNat [V.int 0]).flatten.length ≤ sizeLine := by
      have zs : 100 ≤ sizeLine := by decide
      cases ns with
      | nil => exact ⟨1, rfl, by decide, by decide, by decide, rfl, by decide⟩
      | cons x r =>
        have e0 : (((x :: r).length : Nat) : Int) ≠ 0 := by rw [List.length_cons]; omega
        refine ⟨0, by rw [decide_eq_false e0]; rfl, by decide, by decide, by decide, ?_, ?_⟩
        · show _ ++ [] = _
          rw [List.append_nil]; rfl
        · show _ + 0 ≤ _
          omega
    obtain ⟨kk, ek, k1, k2, k3, k4, k5⟩ := hrep
    rw [ek]
    refine ⟨m, kk, _, rfl, rfl, hm4, k1, k2, k3, fun r nr => ?_⟩
    have s6 : Same H4 (upd H4 r (.lst (List.replicate kk.toNat [V.int 0]).flatten)) := Same.laid nr
    have hr6 : upd H4 r (.lst (List.replicate kk.toNat [V.int 0]).flatten) r = some (.lst (List.replicate kk.toNat [V.int 0]).flatten) := upd_same
    have hl6 := s6 _ _ hl4
    have hp6 := s6 _ _ hp4
    have s7 := s5.trans s6
    generalize upd H4 r (.lst (List.replicate kk.toNat [V.int 0]).flatten) = H6 at s7 hr6 hl6 hp6 ⊢
    clear s6
    refine ⟨l, r, _, _, rfl, rfl, hl6, hr6, (by rw [List.length_map]; exact k5), fun c nc => ?_⟩
    rw [k4]
    have s8 : Same H6 (upd H6 c (.lst ((tapeN ns).map V.int))) := Same.laid nc
    have hc8 : upd H6 c (.lst ((tapeN ns).map V.int)) c = some (.lst ((tapeN ns).map V.int)) := upd_same
    have hp8 := s8 _ _ hp6
    have s9 := s7.trans s8
    have nc0 := back s7 nc
    have ncp : c ≠ p := fun e => by rw [e, hp6] at nc; cases nc
    generalize upd H6 c (.lst ((tapeN ns).map V.int)) = H8 at s9 hc8 hp8 ⊢
    refine ⟨hp8, [(kC, .ref c), (kS, .int 0), (kR, .int 0)], rfl, (by show 3 ≤ 15; decide), ?_⟩
    refine k p c _ (fun b o e => ?_) np nc0 ncp ?_ ?_
    · have nb : b ≠ p := ne_of_none e np
      rw [upd_ne nb]
      exact s9 _ _ e
    · rw [pen_mk]; exact upd_same
    · rw [upd_ne ncp]; exact hc8
end
end AW

set_option linter.all false
set_option maxRecDepth 100000
set_option maxHeartbeats 8000000
namespace AW
open PySem PySem.Spec PyProof.Rows L2
variable [Tbs]
section
variable {P : Program} {w : World} {K : PySem.W.Frag} {mg : Str → Option Value} {base : Heap}
/-- a drawn number, the tape a place further at most -/
def Drawn (H : Hp) (Q : VK) (p : Addr) (B : Int) (ok : Int → Prop) : Prop := ∀ (d : Int) (H' : Hp), ok d → But p H H' → Pen H' p B → Q (.int d) H'
def sp_l_draw (T : Tx K mg) : Sp := fun vs H Q E => ∃ (p : Addr) (n B : Int), vs = [.ref p, .int n] ∧ 0 < n ∧ n.natAbs.log2 < 9000 ∧ Pen H p B ∧ B ≤ 1000000 ∧ Drawn H Q p (B + 1) fun d => 0 ≤ d ∧ d < n
theorem ok_l_draw (T : Tx K mg) : FnOk P w K mg base (L2.CX P w) 1 T.a_l_draw T.d_l_draw P_l_draw (sp_l_draw T) := by
  refine T.F_l_draw.okX sc_l_draw (fun vs H Q E h => ?_) (fun cdv A outer s H vs Q E hr h => ?_)
  · obtain ⟨p, n, B, rfl, _⟩ := h
    rfl
  · obtain ⟨p, n, B, rfl, h0, h1, hp, hB, k⟩ := h
    have hu := hu_of hr
    obtain ⟨c, ns, st, rs, e1, e2, hl, hs0, hsB⟩ := hp.at_
    have npc : p ≠ c := ne_of e1 e2 (by intro z; cases z)
    refine ⟨_, (pss_cons (ps_if (pt_cmpR op_lt (pe_dget hu (pv 0) pe_str (fun _ _ => rfl)) (pv 1) (nomark _))
 (pss_cons (ps_par (i := 2) (j := 3) (by rfl) sc_l_draw.nd rfl rfl (by decide) rfl rfl (pa_cons (pe_dget hu (pv 0) pe_str (fun _ _ => rfl)) (pa_cons (pe_callB call_len_seq (by rfl) T.n_len (by decide +kernel) (pa_cons (pe_dget hu (pv 0) pe_str (fun _ _ => rfl)) pa_nil)) pa_nil)) (by rfl))
 (pss_cons (ps_asg (pe_tup (pa_cons (pe_ix ix_list (pe_dget hu (pv 0) pe_str (fun _ _ => rfl)) (pe_op op_modN (pe_callTy call_int1 (by rfl) T.n_int (by decide +kernel) (pa_cons (pv 2) pa_nil)) (pv 3)) (fun _ _ => rfl)) (pa_cons (pe_op op_add (pv 2) pe_int) pa_nil))) (pg_tup rfl (pgs_cons (pg_name (i := 4) sc_l_draw.nd rfl (.inl rfl)) (pgs_cons (pg_sub (pv 0) pe_str (set_dict hu )) pgs_nil))))
 (pss_cons (ps_set (i := 5) sc_l_draw.nd rfl (.inl rfl) (pe_op op_add (pe_op op_add (pe_op op_mul (pe_callTy call_int1 (by rfl) T.n_int (by decide +kernel) (pa_cons (pv 4) pa_nil)) pe_int) (pe_op op_mul (pe_op op_mul pe_int (pv 2)) (pv 2))) pe_int))
 (pss_cons (ps_set (i := 5) sc_l_draw.nd rfl (.inl rfl) (pe_op op_modN (pe_callTy call_int1 (by rfl) T.n_int (by decide +kernel) (pa_cons (pv 5) pa_nil)) pe_int))
 (pss_cons (ps_dput hu (pv 0) pe_str (pe_op op_modN (pe_callTy call_int1 (by rfl) T.n_int (by decide +kernel) (pa_cons (pe_op op_add (pe_op op_pow (pv 5) pe_int) (pe_op op_mul (pe_op op_mul (pe_op op_mul pe_int (pv 2)) (pv 5)) (pv 5))) pa_nil)) (pe_op op_add (pe_op op_pow pe_int pe_int) pe_int)) rfl)
 (pss_one (ps_if (PW.pt (pw_and (pt_cmpR op_ge (pv 4) (pe_op op_pow pe_int pe_int) (nomark _)) (pw_and1 (pt_cmpR op_lt (pv 2) (pv 3) (nomark _)))))
 (pss_one (ps_dput hu (pv 0) pe_str (pe_op op_sub (pv 4) (pe_op op_pow pe_int pe_int)) rfl))
 pss_nil)))))))
 pss_nil)
 (pss_cons (ps_asg (pe_tup (pa_cons (pe_op op_modN (pe_callTy call_int1 (by rfl) T.n_int (by decide +kernel) (pa_cons (pe_dget hu (pv 0) pe_str (fun _ _ => rfl)) pa_nil)) (pv 1)) (pa_cons (pe_op op_fdivG (pe_dget hu (pv 0) pe_str (fun _ _ => rfl)) (pv 1)) pa_nil))) (pg_tup rfl (pgs_cons (pg_name (i := 6) sc_l_draw.nd rfl (.inl rfl)) (pgs_cons (pg_sub (pv 0) pe_str (set_dict hu )) pgs_nil))))
 (pss_one (ps_ret (pv 6))))), ?_⟩
    have n0 : n ≠ 0 := by omega
    have fin : ∀ (z : Int) (H' : Hp), But p H H' → Pen H' p (B + 1) → Q (.int (z.fmod n)) H' := fun z H' b q => k _ H' (fmod_in h0) b q
    have hm := fmod_in (a := st) (b := (ns.length : Int)) (by omega)
    obtain ⟨z, hz⟩ : ∃ z, atI (ns.map V.int) (st.fmod ((ns.map V.int).length : Int)) = some (.int z) := by
      rw [List.length_map]
      obtain ⟨j, hj⟩ := Int.eq_ofNat_of_zero_le hm.1
      have hj2 : j < ns.length := by omega
      refine ⟨ns[j], ?_⟩
      rw [hj, atI_nat (by rw [List.getElem?_map, List.getElem?_eq_getElem hj2]; rfl)]
    have ln0 : ((ns.map V.int).length : Int) ≠ 0 := by rw [List.length_map]; omega
    have cp1 : CPow 10 18 := ⟨by decide, by decide, by decide⟩
    have cp2 : CPow 10 47 := ⟨by decide, by decide, by decide⟩
    have nzM : (2305843009213693907 : Int) ≠ 0 := by decide
    have nzT : ((10 : Int) ^ (47 : Int).toNat + 9) ≠ 0 := by decide +kernel
    have bM : ∀ x : Int, 0 ≤ x.fmod 2305843009213693907 ∧ x.fmod 2305843009213693907 < 2 ^ 64 := fun x => by have := fmod_in (a := x) (b := 2305843009213693907) (by decide); omega
    refine ⟨_, rfl, p, _, rfl, dg_r e1, _, rfl, _, _, rfl, rfl, _, rfl, ?_⟩
    refine ite2 (fun _ => ?_) (fun _ => ?_)
    · refine ⟨_, rfl, p, _, rfl, dg_s e1, _, rfl, p, _, rfl, dg_c e1, c, _, rfl, .inl (SqL.of e2), _, _, rfl, ?_⟩
      refine ⟨_, rfl, p, _, rfl, dg_c e1, _, rfl, .inl ⟨_, rfl, _, rfl, _, _, rfl, rfl, ln0, c, _, _, _, rfl, rfl, SqL.of e2, hz, ?_⟩⟩
      refine ⟨_, rfl, _, _, rfl, rfl, (by show 2 ≤ sizeLine; decide), fun t nt => ?_⟩
      refine ⟨t, _, rfl, SqT.of upd_same, rfl, _, _, rfl, ?_⟩
      have s1 : Same H (upd H t (.tup [V.int z, V.int (st + 1)])) := Same.laid nt
      have b1 : But p H (upd H t (.tup [V.int z, V.int (st + 1)])) := (But.refl H).new nt
      have ep1 := s1 _ _ e1
      have ec1 := s1 _ _ e2
      have dp := dp_s (z := st + 1) ep1
      refine ⟨_, _, rfl, _, rfl, p, _, rfl, dp, rfl, ?_⟩
      have b2 := b1.upd (z' := st + 1) (r' := rs) ep1
      have ep2 : upd (upd H t (.tup [V.int z, V.int (st + 1)])) p (.dK (penD c (st + 1) rs)) p = some (.dK (penD c (st + 1) rs)) := upd_same
      have ec2 : upd (upd H t (.tup [V.int z, V.int (st + 1)])) p (.dK (penD c (st + 1) rs)) c = some (.lst (ns.map V.int)) := by rw [upd_ne npc.symm]; exact ec1
      clear dp
      generalize upd (upd H t (.tup [V.int z, V.int (st + 1)])) p (.dK (penD c (st + 1) rs)) = H2 at b2 ep2 ec2 ⊢
      refine ⟨_, rfl, .inl ⟨_, rfl, _, _, rfl, rfl, .inr ⟨by decide, by decide⟩, _, rfl, _, _, rfl, rfl, .inr ⟨by omega, by omega⟩, _, rfl, _, _, rfl, rfl, .inr ⟨by omega, by omega⟩, _, _, rfl, rfl, _, _, rfl, rfl, ?_⟩⟩
      refine ⟨_, rfl, .inl ⟨_, rfl, _, _, rfl, rfl, nzM, ?_⟩⟩
      generalize (z * 982451653 + 32452843 * st * st + 961748941) = y0
      refine ⟨_, rfl, _, _, rfl, rfl, ⟨by decide, by decide, by have := bM y0; omega⟩, ?_⟩
      have bM0 := bM y0
      have bY : -(2 ^ 64) < y0.fmod 2305843009213693907 ∧ y0.fmod 2305843009213693907 < 2 ^ 64 := ⟨by omega, bM0.2⟩
      refine ⟨_, rfl, _, _, rfl, rfl, .inr ⟨by omega, by omega⟩, _, rfl, _, _, rfl, rfl, .inr bY, _, rfl, _, _, rfl, rfl, .inr bY, _, _, rfl, rfl, .inl ⟨_, rfl, ?_⟩⟩
      refine ⟨_, _, rfl, rfl, cp2, _, _, rfl, rfl, _, _, rfl, rfl, nzT, _, rfl, p, _, rfl, dp_r ep2, ?_⟩
      generalize (Int.fmod _ _ : Int) = y2
      have b3 := b2.upd (z' := st + 1) (r' := y2) ep2
      have ep3 : upd H2 p (.dK (penD c (st + 1) y2)) p = some (.dK (penD c (st + 1) y2)) := upd_same
      have ec3 : upd H2 p (.dK (penD c (st + 1) y2)) c = some (.lst (ns.map V.int)) := by rw [upd_ne npc.symm]; exact ec2
      generalize upd H2 p (.dK (penD c (st + 1) y2)) = H3 at b3 ep3 ec3 ⊢
      refine ⟨_, rfl, _, _, rfl, rfl, cp1, _, _, rfl, rfl, _, rfl, ?_⟩
      have lf : ∀ (H' : Hp) (r : Int) (t : Addr), H' t = none → True := fun _ _ _ _ => trivial
      refine ite2 (fun _ => ?_) (fun _ => ?_)
      · refine ⟨_, rfl, _, rfl, _, _, rfl, rfl, _, rfl, ?_⟩
        refine ite2 (fun _ => ?_) (fun _ => ?_)
        · refine ⟨_, rfl, _, _, rfl, rfl, cp1, _, _, rfl, rfl, _, rfl, p, _, rfl, dp_r ep3, ?_⟩
          generalize (z - 10 ^ Int.toNat 18 : Int) = y3
          have b4 := b3.upd (z' := st + 1) (r' := y3) ep3
          have ep4 : upd H3 p (.dK (penD c (st + 1) y3)) p = some (.dK (penD c (st + 1) y3)) := upd_same
          have ec4 : upd H3 p (.dK (penD c (st + 1) y3)) c = some (.lst (ns.map V.int)) := by rw [upd_ne npc.symm]; exact ec3
          generalize upd H3 p (.dK (penD c (st + 1) y3)) = H4 at b4 ep4 ec4 ⊢
          have T0 : ∀ t : Addr, H4 t = none → Pen (upd (upd H4 t (.tup [V.int (y3.fmod n), V.int (y3.fdiv n)])) p (.dK (penD c (st + 1) (y3.fdiv n)))) p (B + 1) ∧ But p H (upd (upd H4 t (.tup [V.int (y3.fmod n), V.int (y3.fdiv n)])) p (.dK (penD c (st + 1) (y3.fdiv n)))) := fun t nt => by
            have s0 : Same H4 (upd H4 t (.tup [V.int (y3.fmod n), V.int (y3.fdiv n)])) := Same.laid nt
            have q1 := s0 _ _ ep4
            exact ⟨⟨c, ns, st + 1, _, upd_same, by rw [upd_ne npc.symm]; exact s0 _ _ ec4, hl, by omega, by omega⟩, (b4.new nt).upd q1⟩
          refine ⟨_, rfl, p, _, rfl, dg_r ep4, .inl ⟨_, rfl, _, rfl, _, _, rfl, rfl, n0, _, rfl, p, _, rfl, dg_r ep4, _, rfl, _, _, rfl, rfl, ⟨n0, h1⟩, (by show 2 ≤ sizeLine; decide), fun t nt => ?_⟩⟩
          refine ⟨t, _, rfl, SqT.of upd_same, rfl, _, _, rfl, ?_⟩
          exact ⟨_, _, rfl, _, rfl, p, _, rfl, dp_r (Same.laid nt _ _ ep4), rfl, _, rfl, fin _ _ (T0 t nt).2 (T0 t nt).1⟩
        · clear lf
          have T0 : ∀ t : Addr, H3 t = none → Pen (upd (upd H3 t (.tup [V.int (y2.fmod n), V.int (y2.fdiv n)])) p (.dK (penD c (st + 1) (y2.fdiv n)))) p (B + 1) ∧ But p H (upd (upd H3 t (.tup [V.int (y2.fmod n), V.int (y2.fdiv n)])) p (.dK (penD c (st + 1) (y2.fdiv n)))) := fun t nt => by
            have s0 : Same H3 (upd H3 t (.tup [V.int (y2.fmod n), V.int (y2.fdiv n)])) := Same.laid nt
            have q1 := s0 _ _ ep3
            exact ⟨⟨c, ns, st + 1, _, upd_same, by rw [upd_ne npc.symm]; exact s0 _ _ ec3, hl, by omega, by omega⟩, (b3.new nt).upd q1⟩
          refine ⟨_, rfl, p, _, rfl, dg_r ep3, .inl ⟨_, rfl, _, rfl, _, _, rfl, rfl, n0, _, rfl, p, _, rfl, dg_r ep3, _, rfl, _, _, rfl, rfl, ⟨n0, h1⟩, (by show 2 ≤ sizeLine; decide), fun t nt => ?_⟩⟩
          refine ⟨t, _, rfl, SqT.of upd_same, rfl, _, _, rfl, ?_⟩
          exact ⟨_, _, rfl, _, rfl, p, _, rfl, dp_r (Same.laid nt _ _ ep3), rfl, _, rfl, fin _ _ (T0 t nt).2 (T0 t nt).1⟩
      · refine iteF ?_
        have T0 : ∀ t : Addr, H3 t = none → Pen (upd (upd H3 t (.tup [V.int (y2.fmod n), V.int (y2.fdiv n)])) p (.dK (penD c (st + 1) (y2.fdiv n)))) p (B + 1) ∧ But p H (upd (upd H3 t (.tup [V.int (y2.fmod n), V.int (y2.fdiv n)])) p (.dK (penD c (st + 1) (y2.fdiv n)))) := fun t nt => by
          have s0 : Same H3 (upd H3 t (.tup [V.int (y2.fmod n), V.int (y2.fdiv n)])) := Same.laid nt
          have q1 := s0 _ _ ep3
          exact ⟨⟨c, ns, st + 1, _, upd_same, by rw [upd_ne npc.symm]; exact s0 _ _ ec3, hl, by omega, by omega⟩, (b3.new nt).upd q1⟩
        refine ⟨_, rfl, p, _, rfl, dg_r ep3, .inl ⟨_, rfl, _, rfl, _, _, rfl, rfl, n0, _, rfl, p, _, rfl, dg_r ep3, _, rfl, _, _, rfl, rfl, ⟨n0, h1⟩, (by show 2 ≤ sizeLine; decide), fun t nt => ?_⟩⟩
        refine ⟨t, _, rfl, SqT.of upd_same, rfl, _, _, rfl, ?_⟩
        exact ⟨_, _, rfl, _, rfl, p, _, rfl, dp_r (Same.laid nt _ _ ep3), rfl, _, rfl, fin _ _ (T0 t nt).2 (T0 t nt).1⟩
    · have b0 := But.refl (p := p) H
      have T0 : ∀ t : Addr, H t = none → Pen (upd (upd H t (.tup [V.int (rs.fmod n), V.int (rs.fdiv n)])) p (.dK (penD c (st) (rs.fdiv n)))) p (B + 1) ∧ But p H (upd (upd H t (.tup [V.int (rs.fmod n), V.int (rs.fdiv n)])) p (.dK (penD c (st) (rs.fdiv n)))) := fun t nt => by
        have s0 : Same H (upd H t (.tup [V.int (rs.fmod n), V.int (rs.fdiv n)])) := Same.laid nt
        have q1 := s0 _ _ e1
        exact ⟨⟨c, ns, st, _, upd_same, by rw [upd_ne npc.symm]; exact s0 _ _ e2, hl, by omega, by omega⟩, (b0.new nt).upd q1⟩
      refine ⟨_, rfl, p, _, rfl, dg_r e1, .inl ⟨_, rfl, _, rfl, _, _, rfl, rfl, n0, _, rfl, p, _, rfl, dg_r e1, _, rfl, _, _, rfl, rfl, ⟨n0, h1⟩, (by show 2 ≤ sizeLine; decide), fun t nt => ?_⟩⟩
      refine ⟨t, _, rfl, SqT.of upd_same, rfl, _, _, rfl, ?_⟩
      exact ⟨_, _, rfl, _, rfl, p, _, rfl, dp_r (Same.laid nt _ _ e1), rfl, _, rfl, fin _ _ (T0 t nt).2 (T0 t nt).1⟩
end
end AW

set_option linter.all false
set_option maxRecDepth 100000
set_option maxHeartbeats 8000000
namespace AW
open PySem PySem.Spec PyProof.Rows L2 LamX Tbl
variable [Tbs]
section
variable {P : Program} {w : World} {K : PySem.W.Frag} {mg : Str → Option Value} {base : Heap}
abbrev plp (T : Tx K mg) (p : P3) : D := pl T p.1 p.2.1 p.2.2
def SzP (k : Nat) (p : P3) : Prop := Bd k p.1 ∧ Bd k p.2.1 ∧ Bd k p.2.2
theorem SzP.mono {k l : Nat} {p : P3} (h : SzP k p) (hl : k ≤ l) : SzP l p := ⟨h.1.mono hl, h.2.1.mono hl, h.2.2.mono hl⟩
theorem fdiv2 (z : Int) : z.fdiv 2 = z / 2 := Int.fdiv_eq_ediv_of_nonneg _ (by decide)
def pr_Place_mul (T : Tx K mg) : Pr := fun ds B k e => ∃ p q : P3, ds = [plp T p, plp T q] ∧ CMulW p.1 q.2.1 ∧ k (plp T (mu p q)) B
theorem okD_Place_mul (T : Tx K mg) : FnOk P w K mg base (L2.CX P w) 6 T.a_Place_mul T.d_Place_mul P_Place_mul (spD K (pr_Place_mul T)) := by
  refine T.F_Place_mul.okX sc_Place_mul (spD_len fun ds B k e h => by obtain ⟨⟨x, y, a⟩, ⟨x', y', a'⟩, rfl, c, hk⟩ := h; rfl) (fun cdv A outer s H vs Q E hr h => ?_)
  have G_Place_init : FnOk P w K mg base (L2.CX P w) _ _ _ _ _ := okD_Place_init T
  have G_check_place : FnOk P w K mg base (L2.CX P w) _ _ _ _ _ := okD_check_place T
  obtain ⟨G, ds, B, k, e, hs, hR, ⟨⟨x, y, a⟩, ⟨x', y', a'⟩, rfl, c, hk⟩, hK, hX⟩ := h
  refine ⟨_, (pss_cons (ps_expr (pe_call G_check_place (hr.mono (by decide)) (by rfl) T.g_check_place T.F_check_place.kp T.b_check_place .nil passL (pa_cons (pv 1) pa_nil)))
 (pss_one (ps_ret (pe_make T.M_Place G_Place_init (hr.mono (by decide)) (by rfl) T.g_C_Place T.b_Place_init .nil passL (pa_cons (pe_op op_add (pe_fld (pv 0) rfl) (pe_fld (pv 1) rfl)) (pa_cons (pe_op op_add (pe_fld (pv 0) rfl) (pe_fld (pv 1) rfl)) (pa_cons (pe_op op_add (pe_op op_add (pe_fld (pv 0) rfl) (pe_fld (pv 1) rfl)) (pe_op op_mulW (pe_fld (pv 0) rfl) (pe_fld (pv 1) rfl))) pa_nil))))))), run_body (ρ := [some (pl T x y a), some (pl T x' y' a')]) hs hR hK hX rfl ?_⟩
  refine ws_seq (ws_drop (we_call (wa_cons (we_var rfl (wa_nil ⟨_, rfl, .inl ⟨_, _, _, rfl, ?_⟩⟩)))))
  refine (ws_ret (we_place T (wa_cons (we_op (we_fx T (we_var rfl ⟨_, _, _, rfl, (we_fx T (we_var rfl ⟨_, _, _, rfl, (ro_i0 (wa_cons (we_op (we_fy T (we_var rfl ⟨_, _, _, rfl, (we_fy T (we_var rfl ⟨_, _, _, rfl, (ro_i0 (wa_cons (we_op (we_op (we_fa T (we_var rfl ⟨_, _, _, rfl, (we_fa T (we_var rfl ⟨_, _, _, rfl, (ro_i0 (we_op (we_fx T (we_var rfl ⟨_, _, _, rfl, (we_fy T (we_var rfl ⟨_, _, _, rfl, (ro_i c (ro_i0 (wa_nil ⟨_, _, _, rfl, ?_⟩)))⟩))⟩))))⟩))⟩))))))⟩))⟩)))))⟩))⟩))))))
  exact hk
theorem ro_ownP (T : Tx K mg) {E E' : XK} {e : EW} {B : Int} {k : KD} {p q : P3} (c : CMulW p.1 q.2.1) (h : k (plp T (mu p q)) B) : Ro K E e (rOpO K T.C_Place .Mult (spD K (pr_Place_mul T)) E') (plp T p) (plp T q) B k := ro_own T ⟨p, q, rfl, c, h⟩
def pr_Place_power (T : Tx K mg) : Pr := fun ds B k e => ∃ (p : P3) (n : Int), ds = [plp T p, .int n] ∧ SzP 60000 p ∧ Bd 60000 n ∧ k (plp T (pw p n)) B
theorem okD_Place_power (T : Tx K mg) : FnOk P w K mg base (L2.CX P w) 6 T.a_Place_power T.d_Place_power P_Place_power (spD K (pr_Place_power T)) := by
  refine T.F_Place_power.okX sc_Place_power (spD_len fun ds B k e h => by obtain ⟨⟨x, y, a⟩, n, rfl, ⟨hx, hy, ha⟩, hn, hk⟩ := h; rfl) (fun cdv A outer s H vs Q E hr h => ?_)
  have G_Place_init : FnOk P w K mg base (L2.CX P w) _ _ _ _ _ := okD_Place_init T
  have G_check_integer : FnOk P w K mg base (L2.CX P w) _ _ _ _ _ := okD_check_integer T
  obtain ⟨G, ds, B, k, e, hs, hR, ⟨⟨x, y, a⟩, n, rfl, ⟨hx, hy, ha⟩, hn, hk⟩, hK, hX⟩ := h
  refine ⟨_, (pss_cons (ps_expr (pe_call G_check_integer (hr.mono (by decide)) (by rfl) T.g_check_integer T.F_check_integer.kp T.b_check_integer .nil passL (pa_cons (pv 1) pa_nil)))
 (pss_cons (ps_set (i := 2) sc_Place_power.nd rfl (.inl rfl) (pe_op op_add (pe_op op_mulW (pv 1) (pe_fld (pv 0) rfl)) (pe_op op_mulW (pe_op op_mulW (pe_fld (pv 0) rfl) (pe_fld (pv 0) rfl)) (pe_op op_fdivG (pe_op op_mulW (pv 1) (pe_op op_sub (pv 1) pe_int)) pe_int))))
 (pss_one (ps_ret (pe_make T.M_Place G_Place_init (hr.mono (by decide)) (by rfl) T.g_C_Place T.b_Place_init .nil passL (pa_cons (pe_op op_mulW (pv 1) (pe_fld (pv 0) rfl)) (pa_cons (pe_op op_mulW (pv 1) (pe_fld (pv 0) rfl)) (pa_cons (pv 2) pa_nil)))))))), run_body (ρ := [some (pl T x y a), some (.int n), none]) hs hR hK hX rfl ?_⟩
  have hx : Bd 60000 x := hx
  have hy : Bd 60000 y := hy
  have ha : Bd 60000 a := ha
  have e : pw (x, y, a) n = (n * x, n * y, n * a + x * y * (n * (n - 1)).fdiv 2) := by rw [fdiv2]; rfl
  rw [e] at hk
  refine ws_seq (ws_drop (we_call (wa_cons (we_var rfl (wa_nil ⟨_, rfl, .inl rfl, fun _ => ?_, fun h => nomatch h⟩)))))
  refine ws_seq (ws_set (we_op (we_op (we_var rfl (we_fa T (we_var rfl ⟨_, _, _, rfl, (ro_i (cmc (by apply Bd.mono; (repeat (first | assumption | exact Bd.lit 64 (by decide +kernel) | exact Bd.lit 2000 (by decide +kernel) | apply Bd.neg | apply Bd.fdiv | apply Bd.mul | apply Bd.add2 | apply Bd.sub2)); decide) (by apply Bd.mono; (repeat (first | assumption | exact Bd.lit 64 (by decide +kernel) | exact Bd.lit 2000 (by decide +kernel) | apply Bd.neg | apply Bd.fdiv | apply Bd.mul | apply Bd.add2 | apply Bd.sub2)); decide)) (we_op (we_op (we_fx T (we_var rfl ⟨_, _, _, rfl, (we_fy T (we_var rfl ⟨_, _, _, rfl, (ro_i (cmc (by apply Bd.mono; (repeat (first | assumption | exact Bd.lit 64 (by decide +kernel) | exact Bd.lit 2000 (by decide +kernel) | apply Bd.neg | apply Bd.fdiv | apply Bd.mul | apply Bd.add2 | apply Bd.sub2)); decide) (by apply Bd.mono; (repeat (first | assumption | exact Bd.lit 64 (by decide +kernel) | exact Bd.lit 2000 (by decide +kernel) | apply Bd.neg | apply Bd.fdiv | apply Bd.mul | apply Bd.add2 | apply Bd.sub2)); decide)) (we_op (we_op (we_var rfl (we_op (we_var rfl (we_int (ro_i0 (ro_i (cmc (by apply Bd.mono; (repeat (first | assumption | exact Bd.lit 64 (by decide +kernel) | exact Bd.lit 2000 (by decide +kernel) | apply Bd.neg | apply Bd.fdiv | apply Bd.mul | apply Bd.add2 | apply Bd.sub2)); decide) (by apply Bd.mono; (repeat (first | assumption | exact Bd.lit 64 (by decide +kernel) | exact Bd.lit 2000 (by decide +kernel) | apply Bd.neg | apply Bd.fdiv | apply Bd.mul | apply Bd.add2 | apply Bd.sub2)); decide)) (we_int (ro_i ⟨by decide +kernel, by decide +kernel⟩ (ro_i (cmc (by apply Bd.mono; (repeat (first | assumption | exact Bd.lit 64 (by decide +kernel) | exact Bd.lit 2000 (by decide +kernel) | apply Bd.neg | apply Bd.fdiv | apply Bd.mul | apply Bd.add2 | apply Bd.sub2)); decide) (by apply Bd.mono; (repeat (first | assumption | exact Bd.lit 64 (by decide +kernel) | exact Bd.lit 2000 (by decide +kernel) | apply Bd.neg | apply Bd.fdiv | apply Bd.mul | apply Bd.add2 | apply Bd.sub2)); decide)) (ro_i0 ?_)))))))))))))⟩))⟩)))))⟩))))))
  refine (ws_ret (we_place T (wa_cons (we_op (we_var rfl (we_fx T (we_var rfl ⟨_, _, _, rfl, (ro_i (cmc (by apply Bd.mono; (repeat (first | assumption | exact Bd.lit 64 (by decide +kernel) | exact Bd.lit 2000 (by decide +kernel) | apply Bd.neg | apply Bd.fdiv | apply Bd.mul | apply Bd.add2 | apply Bd.sub2)); decide) (by apply Bd.mono; (repeat (first | assumption | exact Bd.lit 64 (by decide +kernel) | exact Bd.lit 2000 (by decide +kernel) | apply Bd.neg | apply Bd.fdiv | apply Bd.mul | apply Bd.add2 | apply Bd.sub2)); decide)) (wa_cons (we_op (we_var rfl (we_fy T (we_var rfl ⟨_, _, _, rfl, (ro_i (cmc (by apply Bd.mono; (repeat (first | assumption | exact Bd.lit 64 (by decide +kernel) | exact Bd.lit 2000 (by decide +kernel) | apply Bd.neg | apply Bd.fdiv | apply Bd.mul | apply Bd.add2 | apply Bd.sub2)); decide) (by apply Bd.mono; (repeat (first | assumption | exact Bd.lit 64 (by decide +kernel) | exact Bd.lit 2000 (by decide +kernel) | apply Bd.neg | apply Bd.fdiv | apply Bd.mul | apply Bd.add2 | apply Bd.sub2)); decide)) (wa_cons (we_var rfl (wa_nil ⟨_, _, _, rfl, ?_⟩))))⟩))))))⟩)))))))
  exact hk
def pr_home_place (T : Tx K mg) : Pr := fun ds B k e => ds = [] ∧ k (plp T e0) B
theorem okD_home_place (T : Tx K mg) : FnOk P w K mg base (L2.CX P w) 6 T.a_home_place T.d_home_place P_home_place (spD K (pr_home_place T)) := by
  refine T.F_home_place.okX sc_home_place (spD_len fun ds B k e h => by obtain ⟨rfl, hk⟩ := h; rfl) (fun cdv A outer s H vs Q E hr h => ?_)
  have G_Place_init : FnOk P w K mg base (L2.CX P w) _ _ _ _ _ := okD_Place_init T
  obtain ⟨G, ds, B, k, e, hs, hR, ⟨rfl, hk⟩, hK, hX⟩ := h
  refine ⟨_, (pss_one (ps_ret (pe_make T.M_Place G_Place_init (hr.mono (by decide)) (by rfl) T.g_C_Place T.b_Place_init .nil passL (pa_cons pe_int (pa_cons pe_int (pa_cons pe_int pa_nil)))))), run_body (ρ := []) hs hR hK hX rfl ?_⟩
  exact ws_ret <| we_place T <| wa_cons <| we_int <| wa_cons <| we_int <| wa_cons <| we_int <| wa_nil ⟨_, _, _, rfl, hk⟩
def pr_check_places (T : Tx K mg) : Pr := fun ds B k e => ∃ (b : Bool) (xs : List D), ds = [seqD b xs] ∧ (∀ d ∈ xs, ∃ p : P3, d = plp T p) ∧ k .non B
theorem okD_check_places (T : Tx K mg) : FnOk P w K mg base (L2.CX P w) 4 T.a_check_places T.d_check_places P_check_places (spD K (pr_check_places T)) := by
  refine T.F_check_places.okX sc_check_places (spD_len fun ds B k e h => by obtain ⟨b, xs, rfl, hx, hk⟩ := h; rfl) (fun cdv A outer s H vs Q E hr h => ?_)
  have G_check_place : FnOk P w K mg base (L2.CX P w) _ _ _ _ _ := okD_check_place T
  obtain ⟨G, ds, B, k, e, hs, hR, ⟨b, xs, rfl, hx, hk⟩, hK, hX⟩ := h
  refine ⟨_, (pss_one (ps_for (passes_of rfl) rfl (pi_or (pi_list (pv 0)) (pi_tup (pv 0))) (pg_name (i := 1) sc_check_places.nd rfl (.inl rfl))
 (pss_one (ps_expr (pe_call G_check_place (hr.mono (by decide)) (by rfl) T.g_check_place T.F_check_place.kp T.b_check_place .nil (passE (E := E)) (pa_cons (pv 1) pa_nil)))))), run_body (ρ := [some (seqD b xs), none]) hs hR hK hX rfl ?_⟩
  refine ws_for_seq b (we_var rfl ⟨xs, rfl, fun i ρ' B' => (∃ o, ρ' = [some (seqD b xs), o]) ∧ B' = B, ⟨⟨none, rfl⟩, rfl⟩, fun i x ρ' B' hi ⟨⟨o, eρ⟩, eB⟩ => ?_, fun ρ' B' ⟨_, eB⟩ => ?_⟩)
  · subst eρ eB
    obtain ⟨p, ec⟩ := hx x (List.mem_of_getElem? hi)
    subst ec
    exact wg_name (ws_drop (we_callE (wa_cons (we_var rfl (wa_nil ⟨_, rfl, .inl ⟨_, _, _, rfl, ⟨⟨_, rfl⟩, rfl⟩⟩⟩)))))
  · subst eB
    exact hk
def pr_end_x (T : Tx K mg) : Pr := fun ds B k e => ∃ p : P3, ds = [plp T p] ∧ k (.int p.1) B
theorem okD_end_x (T : Tx K mg) : FnOk P w K mg base (L2.CX P w) 1 T.a_end_x T.d_end_x P_end_x (spD K (pr_end_x T)) := by
  refine T.F_end_x.okX sc_end_x (spD_len fun ds B k e h => by obtain ⟨p, rfl, hk⟩ := h; rfl) (fun cdv A outer s H vs Q E hr h => ?_)
  obtain ⟨G, ds, B, k, e, hs, hR, ⟨p, rfl, hk⟩, hK, hX⟩ := h
  refine ⟨_, (pss_one (ps_ret (pe_fld (pv 0) rfl))), run_body (ρ := [some (plp T p)]) hs hR hK hX rfl ?_⟩
  exact ws_ret <| we_fx T <| we_var rfl ⟨_, _, _, rfl, hk⟩
def pr_end_y (T : Tx K mg) : Pr := fun ds B k e => ∃ p : P3, ds = [plp T p] ∧ k (.int p.2.1) B
theorem okD_end_y (T : Tx K mg) : FnOk P w K mg base (L2.CX P w) 1 T.a_end_y T.d_end_y P_end_y (spD K (pr_end_y T)) := by
  refine T.F_end_y.okX sc_end_y (spD_len fun ds B k e h => by obtain ⟨p, rfl, hk⟩ := h; rfl) (fun cdv A outer s H vs Q E hr h => ?_)
  obtain ⟨G, ds, B, k, e, hs, hR, ⟨p, rfl, hk⟩, hK, hX⟩ := h
  refine ⟨_, (pss_one (ps_ret (pe_fld (pv 0) rfl))), run_body (ρ := [some (plp T p)]) hs hR hK hX rfl ?_⟩
  exact ws_ret <| we_fy T <| we_var rfl ⟨_, _, _, rfl, hk⟩
def pr_swept_area (T : Tx K mg) : Pr := fun ds B k e => ∃ p : P3, ds = [plp T p] ∧ k (.int p.2.2) B
theorem okD_swept_area (T : Tx K mg) : FnOk P w K mg base (L2.CX P w) 1 T.a_swept_area T.d_swept_area P_swept_area (spD K (pr_swept_area T)) := by
  refine T.F_swept_area.okX sc_swept_area (spD_len fun ds B k e h => by obtain ⟨p, rfl, hk⟩ := h; rfl) (fun cdv A outer s H vs Q E hr h => ?_)
  obtain ⟨G, ds, B, k, e, hs, hR, ⟨p, rfl, hk⟩, hK, hX⟩ := h
  refine ⟨_, (pss_one (ps_ret (pe_fld (pv 0) rfl))), run_body (ρ := [some (plp T p)]) hs hR hK hX rfl ?_⟩
  exact ws_ret <| we_fa T <| we_var rfl ⟨_, _, _, rfl, hk⟩
/-- places by their numbers, and the lines that made them -/
inductive Bw (told : List P3) : List P3 → List (Nat × Int × Nat) → Prop
  | start : Bw told (e0 :: told) []
  | line {V : List P3} {ls : List (Nat × Int × Nat)} {i j : Nat} {n : Int} {u v : P3} : Bw told V ls → V[i]? = some u → V[j]? = some v → SzP 60000 u → SzP 60000 v → Bd 60000 n → Bw told (V ++ [mu u (pw v n)]) (ls ++ [(i, n, j)])
theorem Bw.len {told V : List P3} {ls : List (Nat × Int × Nat)} (h : Bw told V ls) : ls.length + told.length + 1 = V.length := by
  induction h with
  | start => simp
  | line h _ _ _ _ _ ih => rw [List.length_append, List.length_append]; simp; omega
theorem Bw.pre {told V : List P3} {ls : List (Nat × Int × Nat)} (h : Bw told V ls) : (e0 :: told) <+: V := by
  induction h with
  | start => exact List.prefix_refl _
  | line h _ _ _ _ _ ih => exact ih.trans (List.prefix_append _ _)
theorem pre_get {α : Type} {V V' : List α} (h : V <+: V') {i : Nat} {u : α} (hu : V[i]? = some u) : V'[i]? = some u := by
  obtain ⟨W, rfl⟩ := h
  rw [List.getElem?_append_left (List.getElem?_eq_some_iff.mp hu).1]
  exact hu
abbrev lnD (l : Nat × Int × Nat) : D := .tup [.int (l.1 : Nat), .int l.2.1, .int (l.2.2 : Nat)]
abbrev bwD (T : Tx K mg) (l1 l2 : Addr) : D := .ins T.C_Brew ["places", "lines"] [.val (.ref l1), .val (.ref l2)]
abbrev bwO (T : Tx K mg) (l1 l2 : Addr) (V : List P3) (ls : List (Nat × Int × Nat)) (R : OwL) : OwL := (l1, .list (V.map (plp T))) :: (l2, .list (ls.map lnD)) :: R
abbrev meD (T : Tx K mg) : Ph → D
  | .x => .val (.ref T.a_end_x)
  | .y => .val (.ref T.a_end_y)
  | .a => .val (.ref T.a_swept_area)
theorem at_plp (T : Tx K mg) {V : List P3} {i : Nat} {u : P3} (h : V[i]? = some u) : atI (V.map (plp T)) (i : Int) = some (plp T u) := atI_nat (by rw [List.getElem?_map, h]; rfl)
end
end AW

set_option linter.all false
set_option maxRecDepth 100000
set_option maxHeartbeats 8000000
namespace AW
open PySem PySem.Spec PyProof.Rows L2 LamX Tbl
variable [Tbs]
section
variable {P : Program} {w : World} {K : PySem.W.Frag} {mg : Str → Option Value} {base : Heap}
def pr_Brew_init (T : Tx K mg) : List D → Int → (List D → OwL → Int → Prop) → Prop := fun ds B k => ∃ told : List P3, ds = [.tup (told.map (plp T))] ∧ told.length ≤ 1000 ∧ ∀ l1 l2, k [.val (.ref l1), .val (.ref l2)] [(l2, .list []), (l1, .list ((e0 :: told).map (plp T)))] B
theorem okD_Brew_init (T : Tx K mg) : FnOk P w K mg base (L2.CX P w) 7 T.a_Brew_init T.d_Brew_init P_Brew_init (spIW K T.C_Brew ["places", "lines"] (pr_Brew_init T)) := by
  have G_home_place : FnOk P w K mg base (L2.CX P w) 6 _ _ _ _ := okD_home_place T
  refine T.F_Brew_init.okX sc_Brew_init (fun vs H Q E h => ?_) (fun cdv A outer s H vs Q E hr h => ?_)
  · obtain ⟨p, dx, ws, G, ds, B, k, rfl, hp, gp, hs, hR, ⟨told, rfl, _⟩, hK⟩ := h
    rw [List.length_cons, ← hR.length]
    rfl
  · obtain ⟨p, dx, ws, G, ds, B, k, rfl, hp, gp, hs, hR, ⟨told, rfl, hl, hk⟩, hK⟩ := h
    have n1 : ¬ (("places" : Str) = "lines") := by decide +kernel
    refine ⟨_, (pss_cons (ps_fld (pv 0) (pe_lst (pa_cons (pe_call0 G_home_place (hr.mono (by decide)) (by rfl) T.g_home_place T.F_home_place.kp T.b_home_place .nil passL) (StX.pa_star (pv 1) pa_nil))) rfl)
 (pss_one (ps_fld (pv 0) (pe_lst pa_nil) rfl))), run_init (kf := fun fs O' B' => fs.map (·.1) = ([("places" : Str), "lines"]) ∧ k (fs.map (·.2)) O' B') hp gp hs hR rfl (fun fs us O' B' G' H' hf ex g2 h2 hr2 ow2 hpn => ?_) ?_⟩
    · obtain ⟨e1, hf⟩ := hf
      rw [e1] at h2
      exact hK _ us O' B' G' H' hf ex g2 h2 (by have h3 := hr2.length; have h4 := congrArg List.length e1; rw [List.length_map] at h3 h4; show 2 = _; exact h4.symm.trans h3) hr2 ow2 hpn
    · refine wx_seq <| wx_fldL (i := 0) rfl <| wa_cons <| we_call0 ⟨rfl, wa_star <| we_var rfl ⟨_, .inr rfl, wa_nil ⟨?_, fun l1 => ⟨0, [], rfl, T.cl_Brew, T.na_Brew_places, by decide, (fun q hq => nomatch hq), ?_⟩⟩⟩⟩
      · rw [List.append_nil, List.length_cons, List.length_map]
        have : 1001 ≤ sizeLine := by decide
        omega
      refine wx_fldL (i := 0) rfl <| wa_nil ⟨Nat.zero_le _, fun l2 => ⟨1, _, rfl, T.cl_Brew, T.na_Brew_lines, by simp, (fun q hq => ?_), ?_⟩⟩
      · simp at hq; subst hq; exact n1
      · refine ⟨2, _, rfl, rfl, ?_⟩
        have := hk l1 l2
        simpa using this
theorem lg_lt {i : Int} {k : Nat} (h : Bd k i) (k0 : 0 < k) : i.natAbs.log2 < k := by
  unfold Bd at h
  rcases Nat.eq_zero_or_pos i.natAbs with z | z
  · rw [z]; simpa using k0
  · exact (Nat.log2_lt (by omega)).mpr h
def pr_Brew_add_line (T : Tx K mg) : PrW := fun ds B O k => ∃ (l1 l2 : Addr) (V told : List P3) (ls : List (Nat × Int × Nat)) (R : OwL) (i j : Nat) (n : Int) (u v : P3), ds = [bwD T l1 l2, .int (i : Nat), .int n, .int (j : Nat)] ∧ O = bwO T l1 l2 V ls R ∧ Bw told V ls ∧ V[i]? = some u ∧ V[j]? = some v ∧ SzP 60000 u ∧ SzP 60000 v ∧ Bd 60000 n ∧ V.length ≤ 1000000 ∧
  k (.int (V.length : Nat)) (bwO T l1 l2 (V ++ [mu u (pw v n)]) (ls ++ [(i, n, j)]) R) B
theorem okD_Brew_add_line (T : Tx K mg) : FnOk P w K mg base (L2.CX P w) 7 T.a_Brew_add_line T.d_Brew_add_line P_Brew_add_line (spW K (pr_Brew_add_line T)) := by
  refine T.F_Brew_add_line.okX sc_Brew_add_line (spW_len fun ds B O k h => by obtain ⟨l1, l2, V, told, ls, R, i, j, n, u, v, rfl, rfl, hw, hu, hv, su, sv, bn, hl, hk⟩ := h; rfl) (fun cdv A outer s H vs Q E hr h => ?_)
  have G_Place_mul : FnOk P w K mg base (L2.CX P w) 6 _ _ _ _ := okD_Place_mul T
  have G_Place_power : FnOk P w K mg base (L2.CX P w) 6 _ _ _ _ := okD_Place_power T
  obtain ⟨G, ds, B, O, k, hs, hR, hO, ⟨l1, l2, V, told, ls, R, i, j, n, u, v, rfl, rfl, hw, hu, hv, su, sv, bn, hl, hk⟩, hK⟩ := h
  refine ⟨_, (pss_cons (ps_expr (pe_bm PySem.F.plainAttrs_list PySem.F.slot_list_append PySem.F.type_list_append mt_append (pe_fld (pv 0) rfl) (pa_cons (pe_op (op_ownO T.O_Place_Mult G_Place_mul (hr.mono (by decide)) T.b_Place_mul passL) (pe_ix ix_list (pe_fld (pv 0) rfl) (pv 1) (fun _ _ => rfl)) (pe_meth (pe_ix ix_list (pe_fld (pv 0) rfl) (pv 3) (fun _ _ => rfl)) T.cl_Place T.M_Place_power G_Place_power (hr.mono (by decide)) T.b_Place_power .nil passL (pa_cons (pv 2) pa_nil))) pa_nil)))
 (pss_cons (ps_expr (pe_bm PySem.F.plainAttrs_list PySem.F.slot_list_append PySem.F.type_list_append mt_append (pe_fld (pv 0) rfl) (pa_cons (pe_tup (pa_cons (pv 1) (pa_cons (pv 2) (pa_cons (pv 3) pa_nil)))) pa_nil)))
 (pss_one (ps_ret (pe_op op_sub (pe_callB call_len_seq (by rfl) T.n_len (by decide +kernel) (pa_cons (pe_fld (pv 0) rfl) pa_nil)) pe_int))))), run_bodyW (ρ := [some (bwD T l1 l2), some (.int (i : Nat)), some (.int n), some (.int (j : Nat))]) hs hR hO hK rfl ?_⟩
  have zL : 1000001 < sizeLine := by decide
  have z3 : 3 ≤ sizeLine := by decide
  have fp : ∀ {k : KD}, k (.val (.ref l1)) B → We K E0 noE (tFld K (tVar 0) "places") [some (bwD T l1 l2), some (.int (i : Nat)), some (.int n), some (.int (j : Nat))] B k := fun hk => we_fld <| we_var rfl ⟨_, _, _, _, rfl, T.cl_Brew, T.na_Brew_places, rfl, hk⟩
  have c1 : CMulW u.1 (pw v n).2.1 := cmc (su.1.mono (by decide)) (Bd.mono (Bd.mul bn sv.2.1) (by decide))
  have hll := hw.len
  refine ww_then (fun ρ' O' B' => ρ' = [some (bwD T l1 l2), some (.int (i : Nat)), some (.int n), some (.int (j : Nat))] ∧ O' = bwO T l1 l2 (V ++ [mu u (pw v n)]) ls R ∧ B = B') ?_ ?_
  · refine wx_appV <| fp ⟨l1, rfl, ⟨_, List.mem_cons_self ..⟩, ?_⟩
    refine wew_op <| wew_ixV <| wew_we <| fp <| wew_we <| we_var rfl ⟨l1, 0, _, _, _, rfl, rfl, rfl, at_plp T hu, ?_⟩
    refine wew_methD <| wew_ixV <| wew_we <| fp <| wew_we <| we_var rfl ⟨l1, 0, _, _, _, rfl, rfl, rfl, at_plp T hv, ?_⟩
    refine ⟨_, _, rfl, by decide +kernel, waw_cons <| wew_we <| we_var rfl <| waw_nil ⟨v, n, rfl, sv, bn, ro_ownP T c1 ⟨0, _, rfl, ?_, rfl, ?_, rfl⟩⟩⟩
    · rw [List.length_map]; omega
    · show (l1, OC.list _) :: _ = (l1, OC.list _) :: _
      rw [List.map_append]; rfl
  rintro _ _ _ ⟨rfl, rfl, rfl⟩
  refine ww_then (fun ρ' O' B' => ρ' = [some (bwD T l1 l2), some (.int (i : Nat)), some (.int n), some (.int (j : Nat))] ∧ O' = bwO T l1 l2 (V ++ [mu u (pw v n)]) (ls ++ [(i, n, j)]) R ∧ B = B') ?_ ?_
  · refine wx_appV <| we_fld <| we_var rfl ⟨_, _, _, _, rfl, T.cl_Brew, T.na_Brew_lines, rfl, l2, rfl, ⟨_, List.mem_cons_of_mem _ (List.mem_cons_self ..)⟩, wew_we <| we_tup <| wa_cons <| we_var rfl <| wa_cons <| we_var rfl <| wa_cons <| we_var rfl <| wa_nil ⟨z3, 1, _, rfl, ?_, rfl, ?_, rfl⟩⟩
    · rw [List.length_map]; omega
    · have e : (ls ++ [(i, n, j)]).map lnD = ls.map lnD ++ [D.tup [.int (i : Nat), .int n, .int (j : Nat)]] := by rw [List.map_append]; rfl
      show _ :: (l2, OC.list _) :: _ = _ :: (l2, OC.list _) :: _
      rw [e]
  rintro _ _ _ ⟨rfl, rfl, rfl⟩
  refine ww_ret <| wew_op <| wew_lenV <| fp ⟨l1, 0, _, rfl, rfl, wew_we <| we_int <| ro_i0 ?_⟩
  have e : (((V ++ [mu u (pw v n)]).map (plp T)).length : Int) - 1 = ((V.length : Nat) : Int) := by rw [List.length_map, List.length_append]; simp
  rw [e]
  exact hk
end
end AW

set_option linter.all false
set_option maxRecDepth 100000
set_option maxHeartbeats 8000000
namespace AW
open PySem PySem.Spec PyProof.Rows L2 LamX Tbl
variable [Tbs]
section
variable {P : Program} {w : World} {K : PySem.W.Frag} {mg : Str → Option Value} {base : Heap}
theorem me_call (T : Tx K mg) {E E' : XK} {e : EW} {ρ : List (Option D)} {B : Int} {O : OwL} {k : KW} {i : Nat} {ta : TE} (ph : Ph) (hi : ρ[i]? = some (some (meD T ph))) (h : WeW K E e ta ρ B O fun d O1 B1 => ∃ p, d = plp T p ∧ k (.int (meas ph p)) O1 B1) :
    WeW K E e (tOr2E (tCallL i T.a_end_x (spD K (pr_end_x T)) [] E' (tCons ta tNil)) (tOr2E (tCallL i T.a_end_y (spD K (pr_end_y T)) [] E' (tCons ta tNil)) (tCallL i T.a_swept_area (spD K (pr_swept_area T)) [] E' (tCons ta tNil)))) ρ B O k := by
  cases ph with
  | x => exact wew_orL <| wew_callL hi <| wew_callD <| waw_cons <| h.imp fun d O1 B1 ⟨p, e, hk⟩ => waw_nil ⟨p, by rw [e], hk⟩
  | y => exact wew_orR <| wew_orL <| wew_callL hi <| wew_callD <| waw_cons <| h.imp fun d O1 B1 ⟨p, e, hk⟩ => waw_nil ⟨p, by rw [e], hk⟩
  | a => exact wew_orR <| wew_orR <| wew_callL hi <| wew_callD <| waw_cons <| h.imp fun d O1 B1 ⟨p, e, hk⟩ => waw_nil ⟨p, by rw [e], hk⟩
theorem wew_at (T : Tx K mg) {E : XK} {e : EW} {ρ : List (Option D)} {B : Int} {R : OwL} {k : KW} {b i j : Nat} {l1 l2 : Addr} {V : List P3} {ls : List (Nat × Int × Nat)} {p : P3} (hb : ρ[b]? = some (some (bwD T l1 l2))) (hi : ρ[i]? = some (some (.int (j : Nat)))) (hp : V[j]? = some p) (hk : k (plp T p) (bwO T l1 l2 V ls R) B) : WeW K E e (tOp (rIxL K) (tFld K (tVar b) "places") (tVar i)) ρ B (bwO T l1 l2 V ls R) k :=
  wew_ixV <| wew_we <| we_fld <| we_var hb ⟨_, _, _, _, rfl, T.cl_Brew, T.na_Brew_places, rfl, wew_we <| we_var hi ⟨l1, 0, _, _, _, rfl, rfl, rfl, at_plp T hp, hk⟩⟩
theorem bd_ab {n k : Nat} {i : Int} (h : ab i ≤ 2 ^ n) (hn : n < k) : Bd k i := by
  unfold Bd
  have h2 : (2 : Nat) ^ n < 2 ^ k := (Nat.pow_lt_pow_iff_right (by decide)).mpr hn
  have h3 : ((2 : Int) ^ n) = ((2 ^ n : Nat) : Int) := by push_cast; rfl
  rw [h3] at h
  unfold Tbl.ab at h
  omega
theorem dom_sz {ph : Ph} {n m k : Nat} {p : P3} (h : Dom ph n m p) (hk : n + m + 4 ≤ k) : SzP k p := by
  have p1 := p2_nn n
  have p2 := p2_nn m
  have h2 := uu_mu
  have e : 2 * p.2.2 = uu p + p.1 * p.2.1 := by unfold uu; omega
  have pa : (2 : Int) ^ (n + m) = 2 ^ n * 2 ^ m := Int.pow_add ..
  have pm : (2 : Int) ^ m ≤ 2 ^ (n + m) := pw2_le (by omega)
  have pm2 : (2 : Int) ^ (m + n + 2) ≤ 2 ^ (n + m + 2) := pw2_le (by omega)
  have pm3 : (2 : Int) ^ (n + m) ≤ 2 ^ (n + m + 2) := pw2_le (by omega)
  have pn : (2 : Int) ^ n ≤ 2 ^ (n + m) := pw2_le (by omega)
  cases ph with
  | x =>
    obtain ⟨h1, h2, h3⟩ := h
    have h4 := mulle (ab_nn p.1) h1 (ab_nn p.2.1) h2
    rw [← ab_mul, ← pa] at h4
    refine ⟨bd_ab h1 (by omega), bd_ab h2 (by omega), bd_ab (n := n + m + 2) ?_ (by omega)⟩
    unfold Tbl.ab at *
    omega
  | y =>
    obtain ⟨h1, h2, h3⟩ := h
    rw [h1, Int.zero_mul] at e
    refine ⟨by rw [h1]; exact Nat.one_le_two_pow, bd_ab h2 (by omega), bd_ab (n := n + m) ?_ (by omega)⟩
    unfold Tbl.ab at *
    omega
  | a =>
    obtain ⟨h1, h2, h3⟩ := h
    exact ⟨by rw [h1]; exact Nat.one_le_two_pow, by rw [h2]; exact Nat.one_le_two_pow, bd_ab h3 (by omega)⟩
theorem me_bd {ph : Ph} {k : Nat} {p : P3} (h : SzP k p) : Bd k (meas ph p) := by
  cases ph with
  | x => exact h.1
  | y => exact h.2.1
  | a => exact h.2.2
def pr_lowered (T : Tx K mg) : PrW := fun ds B O k => ∃ (ph : Ph) (l1 l2 : Addr) (V told : List P3) (ls : List (Nat × Int × Nat)) (R : OwL) (i j : Nat) (h l : P3), ds = [bwD T l1 l2, .int (i : Nat), .int (j : Nat), meD T ph] ∧ O = bwO T l1 l2 V ls R ∧ Bw told V ls ∧ V[i]? = some h ∧ V[j]? = some l ∧ SzP 29000 h ∧ SzP 29000 l ∧ meas ph l ≠ 0 ∧ Bd 8999 (meas ph l) ∧ V.length ≤ 1000000 ∧
  ∀ (V' : List P3) (ls' : List (Nat × Int × Nat)) (i' : Nat), Bw told V' ls' → V <+: V' → V'.length ≤ V.length + 1 → V'[i']? = some (nxP ph h l) → k (.int (i' : Nat)) (bwO T l1 l2 V' ls' R) B
theorem okD_lowered (T : Tx K mg) : FnOk P w K mg base (L2.CX P w) 8 T.a_lowered T.d_lowered P_lowered (spW K (pr_lowered T)) := by
  refine T.F_lowered.okX sc_lowered (spW_len fun ds B O k h => by obtain ⟨ph, l1, l2, V, told, ls, R, i, j, h, l, rfl, rfl, hw, hh, hl, sh, sl, nz, bl, hlen, hk⟩ := h; rfl) (fun cdv A outer s H vs Q E hr h => ?_)
  have G_Brew_add_line : FnOk P w K mg base (L2.CX P w) 7 _ _ _ _ := okD_Brew_add_line T
  have G_end_x : FnOk P w K mg base (L2.CX P w) 1 _ _ _ _ := okD_end_x T
  have G_end_y : FnOk P w K mg base (L2.CX P w) 1 _ _ _ _ := okD_end_y T
  have G_swept_area : FnOk P w K mg base (L2.CX P w) 1 _ _ _ _ := okD_swept_area T
  obtain ⟨G, ds, B, O, k, hs, hR, hO, ⟨ph, l1, l2, V, told, ls, R, i, j, h, l, rfl, rfl, hw, hh, hl, sh, sl, nz, bl, hlen, hk⟩, hK⟩ := h
  refine ⟨_, (pss_cons (ps_set (i := 4) sc_lowered.nd rfl (.inl rfl) (pe_op op_fdivG (pe_or2 (pe_callL (i := 3) G_end_x (hr.mono (by decide)) (by rfl) (by first | exact Or.inl rfl | exact Or.inr (Or.inl rfl) | exact Or.inr (Or.inr rfl)) T.F_end_x.kp T.b_end_x .nil passL (pa_cons (pe_ix ix_list (pe_fld (pv 0) rfl) (pv 1) (fun _ _ => rfl)) pa_nil)) (pe_or2 (pe_callL (i := 3) G_end_y (hr.mono (by decide)) (by rfl) (by first | exact Or.inl rfl | exact Or.inr (Or.inl rfl) | exact Or.inr (Or.inr rfl)) T.F_end_y.kp T.b_end_y .nil passL (pa_cons (pe_ix ix_list (pe_fld (pv 0) rfl) (pv 1) (fun _ _ => rfl)) pa_nil)) (pe_callL (i := 3) G_swept_area (hr.mono (by decide)) (by rfl) (by first | exact Or.inl rfl | exact Or.inr (Or.inl rfl) | exact Or.inr (Or.inr rfl)) T.F_swept_area.kp T.b_swept_area .nil passL (pa_cons (pe_ix ix_list (pe_fld (pv 0) rfl) (pv 1) (fun _ _ => rfl)) pa_nil)))) (pe_or2 (pe_callL (i := 3) G_end_x (hr.mono (by decide)) (by rfl) (by first | exact Or.inl rfl | exact Or.inr (Or.inl rfl) | exact Or.inr (Or.inr rfl)) T.F_end_x.kp T.b_end_x .nil passL (pa_cons (pe_ix ix_list (pe_fld (pv 0) rfl) (pv 2) (fun _ _ => rfl)) pa_nil)) (pe_or2 (pe_callL (i := 3) G_end_y (hr.mono (by decide)) (by rfl) (by first | exact Or.inl rfl | exact Or.inr (Or.inl rfl) | exact Or.inr (Or.inr rfl)) T.F_end_y.kp T.b_end_y .nil passL (pa_cons (pe_ix ix_list (pe_fld (pv 0) rfl) (pv 2) (fun _ _ => rfl)) pa_nil)) (pe_callL (i := 3) G_swept_area (hr.mono (by decide)) (by rfl) (by first | exact Or.inl rfl | exact Or.inr (Or.inl rfl) | exact Or.inr (Or.inr rfl)) T.F_swept_area.kp T.b_swept_area .nil passL (pa_cons (pe_ix ix_list (pe_fld (pv 0) rfl) (pv 2) (fun _ _ => rfl)) pa_nil))))))
 (pss_cons (ps_if (pt_cmpR op_eq (pv 4) pe_int (nomark _))
 (pss_one (ps_ret (pv 1)))
 pss_nil)
 (pss_one (ps_ret (pe_meth (pv 0) T.cl_Brew T.M_Brew_add_line G_Brew_add_line (hr.mono (by decide)) T.b_Brew_add_line .nil passL (pa_cons (pv 1) (pa_cons (pe_un un_neg (pv 4)) (pa_cons (pv 2) pa_nil)))))))), run_bodyW (ρ := [some (bwD T l1 l2), some (.int (i : Nat)), some (.int (j : Nat)), some (meD T ph), none]) hs hR hO hK rfl ?_⟩
  obtain ⟨q, hq⟩ : ∃ q, q = (meas ph h).fdiv (meas ph l) := ⟨_, rfl⟩
  have bq : Bd 29000 q := by rw [hq]; exact Bd.fdiv (me_bd sh)
  refine ww_then (fun ρ' O' B' => ρ' = [some (bwD T l1 l2), some (.int (i : Nat)), some (.int (j : Nat)), some (meD T ph), some (.int q)] ∧ O' = bwO T l1 l2 V ls R ∧ B = B') ?_ ?_
  · refine wx_setW <| wew_op <| me_call T ph rfl <| wew_at T rfl rfl hh ⟨h, rfl, me_call T ph rfl <| wew_at T rfl rfl hl ⟨l, rfl, ro_i ⟨nz, lg_lt (bl.mono (by decide)) (by decide)⟩ ?_⟩⟩
    rw [← hq]
    exact ⟨rfl, rfl, rfl⟩
  rintro _ _ _ ⟨rfl, rfl, rfl⟩
  refine ww_seq <| ww_if <| wtw_wt <| wt_test <| we_op <| we_var rfl <| we_int <| ro_eqI ⟨_, rfl, fun h0 => ?_, fun h0 => ww_next ?_⟩
  · have h0 : q = 0 := of_decide_eq_true h0
    refine ww_ret <| wew_we <| we_var rfl <| hk V ls i hw (List.prefix_refl _) (by omega) ?_
    have : nxP ph h l = h := by unfold nxP; rw [← hq, h0, Int.neg_zero, pw_0, mu_e0]
    rw [this]; exact hh
  · refine ww_ret <| wew_meth <| wew_we <| we_var rfl ⟨_, _, rfl, by decide +kernel, waw_cons <| wew_we <| we_var rfl <| waw_cons <| wew_we <| we_neg <| we_var rfl ⟨_, rfl, waw_cons <| wew_we <| we_var rfl <| waw_nil ⟨l1, l2, V, told, ls, R, i, j, -q, h, l, rfl, rfl, hw, hh, hl, sh.mono (by decide), sl.mono (by decide), bq.neg.mono (by decide), hlen, ?_⟩⟩⟩
    refine hk _ _ _ (.line hw hh hl (sh.mono (by decide)) (sl.mono (by decide)) (bq.neg.mono (by decide))) (List.prefix_append _ _) (by rw [List.length_append]; exact Nat.le_refl _) ?_
    rw [List.getElem?_append_right (Nat.le_refl _), Nat.sub_self]
    show some (mu h (pw l (-q))) = some _
    unfold nxP; rw [← hq]
def pr_divided (T : Tx K mg) : PrW := fun ds B O k => ∃ (ph : Ph) (n m : Nat) (l1 l2 : Addr) (V told : List P3) (ls : List (Nat × Int × Nat)) (R : OwL) (i j : Nat) (h l : P3), ds = [bwD T l1 l2, .int (i : Nat), .int (j : Nat), meD T ph] ∧ O = bwO T l1 l2 V ls R ∧ Bw told V ls ∧ V[i]? = some h ∧ V[j]? = some l ∧ Dom ph n m h ∧ Dom ph n m l ∧ meas ph h ≠ 0 ∧ n ≤ 8998 ∧ n + gb ph n m + 4 ≤ 29000 ∧ V.length + 2 * n + 4 ≤ 1000000 ∧
  ∀ (V' : List P3) (ls' : List (Nat × Int × Nat)) (i' j' : Nat) (h' l' : P3), Bw told V' ls' → V <+: V' → V'.length ≤ V.length + (2 * n + 3) → V'[i']? = some h' → V'[j']? = some l' → GE [h, l] [h', l'] → Dom ph n (gb ph n m) h' → Dom ph n (gb ph n m) l' → meas ph h' ≠ 0 → meas ph l' = 0 → k (.tup [.int (i' : Nat), .int (j' : Nat)]) (bwO T l1 l2 V' ls' R) B
theorem okD_divided (T : Tx K mg) : FnOk P w K mg base (L2.CX P w) 9 T.a_divided T.d_divided P_divided (spW K (pr_divided T)) := by
  refine T.F_divided.okX sc_divided (spW_len fun ds B O k h => by obtain ⟨ph, n, m, l1, l2, V, told, ls, R, i, j, h, l, rfl, rfl, hw, hh, hl, dh, dl, nz, hn, hg, hlen, hk⟩ := h; rfl) (fun cdv A outer s H vs Q E hr h => ?_)
  have G_end_x : FnOk P w K mg base (L2.CX P w) 1 _ _ _ _ := okD_end_x T
  have G_end_y : FnOk P w K mg base (L2.CX P w) 1 _ _ _ _ := okD_end_y T
  have G_lowered : FnOk P w K mg base (L2.CX P w) 8 _ _ _ _ := okD_lowered T
  have G_swept_area : FnOk P w K mg base (L2.CX P w) 1 _ _ _ _ := okD_swept_area T
  obtain ⟨G, ds, B, O, k, hs, hR, hO, ⟨ph, n, m, l1, l2, V, told, ls, R, i, j, h, l, rfl, rfl, hw, hh, hl, dh, dl, nz, hn, hg, hlen, hk⟩, hK⟩ := h
  refine ⟨_, (pss_cons (ps_while (passes_of rfl) (pt_cmpR op_ne (pe_or2 (pe_callL (i := 3) G_end_x (hr.mono (by decide)) (by rfl) (by first | exact Or.inl rfl | exact Or.inr (Or.inl rfl) | exact Or.inr (Or.inr rfl)) T.F_end_x.kp T.b_end_x .nil passL (pa_cons (pe_ix ix_list (pe_fld (pv 0) rfl) (pv 2) (fun _ _ => rfl)) pa_nil)) (pe_or2 (pe_callL (i := 3) G_end_y (hr.mono (by decide)) (by rfl) (by first | exact Or.inl rfl | exact Or.inr (Or.inl rfl) | exact Or.inr (Or.inr rfl)) T.F_end_y.kp T.b_end_y .nil passL (pa_cons (pe_ix ix_list (pe_fld (pv 0) rfl) (pv 2) (fun _ _ => rfl)) pa_nil)) (pe_callL (i := 3) G_swept_area (hr.mono (by decide)) (by rfl) (by first | exact Or.inl rfl | exact Or.inr (Or.inl rfl) | exact Or.inr (Or.inr rfl)) T.F_swept_area.kp T.b_swept_area .nil passL (pa_cons (pe_ix ix_list (pe_fld (pv 0) rfl) (pv 2) (fun _ _ => rfl)) pa_nil)))) pe_int (nomark _))
 (pss_one (ps_par (i := 1) (j := 2) (by rfl) sc_divided.nd rfl rfl (by decide) rfl rfl (pa_cons (pv 2) (pa_cons (pe_call G_lowered (hr.mono (by decide)) (by rfl) T.g_lowered T.F_lowered.kp T.b_lowered .nil passL (pa_cons (pv 0) (pa_cons (pv 1) (pa_cons (pv 2) (pa_cons (pv 3) pa_nil))))) pa_nil)) (by rfl))))
 (pss_one (ps_ret (pe_tup (pa_cons (pv 1) (pa_cons (pv 2) pa_nil)))))), run_bodyW (ρ := [some (bwD T l1 l2), some (.int (i : Nat)), some (.int (j : Nat)), some (meD T ph)]) hs hR hO hK rfl ?_⟩
  have z2 : 2 ≤ sizeLine := by decide
  refine ww_then (fun ρ' O' B' => ∃ (V' : List P3) (ls' : List (Nat × Int × Nat)) (i' j' : Nat) (h' l' : P3) (kk : Nat), ρ' = [some (bwD T l1 l2), some (.int (i' : Nat)), some (.int (j' : Nat)), some (meD T ph)] ∧ O' = bwO T l1 l2 V' ls' R ∧ B = B' ∧ Bw told V' ls' ∧ V <+: V' ∧ V'.length ≤ V.length + kk ∧ V'[i']? = some h' ∧ V'[j']? = some l' ∧ GE [h, l] [h', l'] ∧ St ph n m kk h' l' ∧ meas ph l' = 0) ?_ ?_
  · refine wx_whileW (fun nn ρ' O' B' => ∃ (V' : List P3) (ls' : List (Nat × Int × Nat)) (i' j' : Nat) (h' l' : P3) (kk : Nat), ρ' = [some (bwD T l1 l2), some (.int (i' : Nat)), some (.int (j' : Nat)), some (meD T ph)] ∧ O' = bwO T l1 l2 V' ls' R ∧ B = B' ∧ Bw told V' ls' ∧ V <+: V' ∧ V'.length ≤ V.length + kk ∧ V'[i']? = some h' ∧ V'[j']? = some l' ∧ GE [h, l] [h', l'] ∧ St ph n m kk h' l' ∧ nn = (meas ph l').natAbs) (meas ph l).natAbs ⟨V, ls, i, j, h, l, 0, rfl, rfl, rfl, hw, List.prefix_refl _, Nat.le_refl _, hh, hl, GE.refl _, st_init dh dl nz, rfl⟩ fun nn ρ' O' B' hI => ?_
    obtain ⟨V', ls', i', j', h', l', kk, rfl, rfl, rfl, hw', hp', hl', gh', gl', ge', st', rfl⟩ := hI
    obtain ⟨dh', dl'⟩ := st_dom st'
    have hkk := st'.ec.le
    refine wtw_test <| wew_op <| me_call T ph rfl <| wew_at T rfl rfl gl' ⟨l', rfl, wew_we <| we_int <| ro_neI ⟨_, rfl, fun h0 => ?_, fun h0 => ?_⟩⟩
    · have h0 : meas ph l' ≠ 0 := fun z => by rw [decide_eq_true z] at h0; cases h0
      have bl' : Bd 8999 (meas ph l') := bd_ab (meas_le dl') (by omega)
      refine wx_parW <| waw_cons <| wew_we <| we_var rfl <| waw_cons <| wew_call <| waw_cons <| wew_we <| we_var rfl <| waw_cons <| wew_we <| we_var rfl <| waw_cons <| wew_we <| we_var rfl <| waw_cons <| wew_we <| we_var rfl <| waw_nil ⟨ph, l1, l2, V', told, ls', R, i', j', h', l', rfl, rfl, hw', gh', gl', dom_sz dh' (by omega), dom_sz dl' (by omega), h0, bl', by omega, fun V2 ls2 i2 w2 p2 len2 g2 => waw_nil ⟨_, _, rfl, (meas ph (nxP ph h' l')).natAbs, ?_, V2, ls2, j', i2, l', nxP ph h' l', kk + 1, rfl, rfl, rfl, w2, hp'.trans p2, by omega, pre_get p2 gl', g2, ge'.trans (ge_step h' l' _), st_step st' h0, rfl⟩⟩
      rw [nx_meas dh' dl']
      have := (fq_ab (a := meas ph h') h0).1
      unfold Tbl.ab at this
      omega
    · have h0 : meas ph l' = 0 := by
        by_cases z : meas ph l' = 0
        · exact z
        · rw [decide_eq_false z] at h0; cases h0
      exact ⟨V', ls', i', j', h', l', kk, rfl, rfl, rfl, hw', hp', hl', gh', gl', ge', st', h0⟩
  rintro _ _ _ ⟨V', ls', i', j', h', l', kk, rfl, rfl, rfl, hw', hp', hl', gh', gl', ge', st', h0⟩
  obtain ⟨dh', dl'⟩ := st_dom st'
  have hkk := st'.ec.le
  exact ww_ret <| wew_we <| we_tup <| wa_cons <| we_var rfl <| wa_cons <| we_var rfl <| wa_nil ⟨z2, hk V' ls' i' j' h' l' hw' hp' (by omega) gh' gl' ge' dh' dl' st'.nz h0⟩
theorem app_last {V : List P3} {u : P3} : (V ++ [u])[V.length]? = some u := by rw [List.getElem?_append_right (Nat.le_refl _), Nat.sub_self]; rfl
def pr_swapped (T : Tx K mg) : PrW := fun ds B O k => ∃ (l1 l2 : Addr) (V told : List P3) (ls : List (Nat × Int × Nat)) (R : OwL) (i j : Nat) (f s : P3), ds = [bwD T l1 l2, .int (i : Nat), .int (j : Nat)] ∧ O = bwO T l1 l2 V ls R ∧ Bw told V ls ∧ V[i]? = some f ∧ V[j]? = some s ∧ SzP 29000 f ∧ SzP 29000 s ∧ V.length + 3 ≤ 1000000 ∧
  ∀ (V' : List P3) (ls' : List (Nat × Int × Nat)) (i' : Nat), Bw told V' ls' → V <+: V' → V'.length ≤ V.length + 3 → V'[i']? = some (zz (f.1 * s.2.1 - s.1 * f.2.1)) → k (.int (i' : Nat)) (bwO T l1 l2 V' ls' R) B
theorem swap_zz (f s : P3) : mu (mu (mu f (pw s 1)) (pw f (-1))) (pw s (-1)) = zz (f.1 * s.2.1 - s.1 * f.2.1) := by
  rw [pw_1, iv_pw1, iv_pw1]
  exact p3_ext (by simp only [mu, iv]; omega) (by simp only [mu, iv]; omega) (by simp only [mu, iv]; grind)
theorem SzP.mu {k : Nat} {p q : P3} (h : SzP k p) (g : SzP k q) : SzP (2 * k + 2) (mu p q) :=
  ⟨(Bd.add h.1 g.1).mono (by omega), (Bd.add h.2.1 g.2.1).mono (by omega), Bd.add ((Bd.add h.2.2 g.2.2).mono (by omega)) ((Bd.mul h.1 g.2.1).mono (by omega))⟩
theorem bd1 {k : Nat} (hk : 1 ≤ k) : Bd k 1 ∧ Bd k (-1) := ⟨Nat.one_lt_two_pow (by omega), Nat.one_lt_two_pow (by omega)⟩
theorem okD_swapped (T : Tx K mg) : FnOk P w K mg base (L2.CX P w) 8 T.a_swapped T.d_swapped P_swapped (spW K (pr_swapped T)) := by
  refine T.F_swapped.okX sc_swapped (spW_len fun ds B O k h => by obtain ⟨l1, l2, V, told, ls, R, i, j, f, s', rfl, rfl, hw, hf, hss, sf, ss, hlen, hk⟩ := h; rfl) (fun cdv A outer s H vs Q E hr h => ?_)
  have G_Brew_add_line : FnOk P w K mg base (L2.CX P w) 7 _ _ _ _ := okD_Brew_add_line T
  obtain ⟨G, ds, B, O, k, hs, hR, hO, ⟨l1, l2, V, told, ls, R, i, j, f, s', rfl, rfl, hw, hf, hss, sf, ss, hlen, hk⟩, hK⟩ := h
  refine ⟨_, (pss_cons (ps_set (i := 3) sc_swapped.nd rfl (.inl rfl) (pe_meth (pv 0) T.cl_Brew T.M_Brew_add_line G_Brew_add_line (hr.mono (by decide)) T.b_Brew_add_line .nil passL (pa_cons (pv 1) (pa_cons pe_int (pa_cons (pv 2) pa_nil)))))
 (pss_one (ps_ret (pe_meth (pv 0) T.cl_Brew T.M_Brew_add_line G_Brew_add_line (hr.mono (by decide)) T.b_Brew_add_line .nil passL (pa_cons (pe_meth (pv 0) T.cl_Brew T.M_Brew_add_line G_Brew_add_line (hr.mono (by decide)) T.b_Brew_add_line .nil passL (pa_cons (pv 3) (pa_cons (pe_un un_neg pe_int) (pa_cons (pv 1) pa_nil)))) (pa_cons (pe_un un_neg pe_int) (pa_cons (pv 2) pa_nil))))))), run_bodyW (ρ := [some (bwD T l1 l2), some (.int (i : Nat)), some (.int (j : Nat)), none]) hs hR hO hK rfl ?_⟩
  have b1 := bd1 (k := 60000) (by decide)
  have w1 := Bw.line (n := 1) hw hf hss (sf.mono (by decide)) (ss.mono (by decide)) b1.1
  have p1 : V <+: V ++ [mu f (pw s' 1)] := List.prefix_append _ _
  have g1 : (V ++ [mu f (pw s' 1)])[V.length]? = some (mu f (pw s' 1)) := app_last
  have s1 : SzP 60000 (mu f (pw s' 1)) := by rw [pw_1]; exact (sf.mu ss).mono (by decide)
  have l1' : (V ++ [mu f (pw s' 1)]).length = V.length + 1 := by rw [List.length_append]; rfl
  refine ww_then (fun ρ' O' B' => ρ' = [some (bwD T l1 l2), some (.int (i : Nat)), some (.int (j : Nat)), some (.int (V.length : Nat))] ∧ O' = bwO T l1 l2 (V ++ [mu f (pw s' 1)]) (ls ++ [(i, 1, j)]) R ∧ B = B') ?_ ?_
  · exact wx_setW <| wew_meth <| wew_we <| we_var rfl ⟨_, _, rfl, by decide +kernel, waw_cons <| wew_we <| we_var rfl <| waw_cons <| wew_we <| we_int <| waw_cons <| wew_we <| we_var rfl <| waw_nil ⟨l1, l2, V, told, ls, R, i, j, 1, f, s', rfl, rfl, hw, hf, hss, sf.mono (by decide), ss.mono (by decide), b1.1, by omega, rfl, rfl, rfl⟩⟩
  rintro _ _ _ ⟨rfl, rfl, rfl⟩
  refine ww_ret <| wew_meth <| wew_we <| we_var rfl ⟨_, _, rfl, by decide +kernel, waw_cons <| wew_meth <| wew_we <| we_var rfl ⟨_, _, rfl, by decide +kernel, waw_cons <| wew_we <| we_var rfl <| waw_cons <| wew_we <| we_neg <| we_int ⟨_, rfl, waw_cons <| wew_we <| we_var rfl <| waw_nil ⟨l1, l2, _, told, _, R, V.length, i, -1, _, f, rfl, rfl, w1, g1, pre_get p1 hf, s1, sf.mono (by decide), b1.2, by omega, ?_⟩⟩⟩⟩
  have w2 := Bw.line (n := -1) w1 g1 (pre_get p1 hf) s1 (sf.mono (by decide)) b1.2
  have p2 : V ++ [mu f (pw s' 1)] <+: V ++ [mu f (pw s' 1)] ++ [mu (mu f (pw s' 1)) (pw f (-1))] := List.prefix_append _ _
  have g2 : (V ++ [mu f (pw s' 1)] ++ [mu (mu f (pw s' 1)) (pw f (-1))])[(V ++ [mu f (pw s' 1)]).length]? = some (mu (mu f (pw s' 1)) (pw f (-1))) := app_last
  have s2 : SzP 60000 (mu (mu f (pw s' 1)) (pw f (-1))) := by
    rw [pw_1, iv_pw1]
    have e : mu (mu f s') (iv f) = (s'.1, s'.2.1, s'.2.2 + f.1 * s'.2.1 - s'.1 * f.2.1) := p3_ext (by simp only [mu, iv]; omega) (by simp only [mu, iv]; omega) (by simp only [mu, iv]; grind)
    rw [e]
    exact ⟨ss.1.mono (by decide), ss.2.1.mono (by decide), (Bd.sub (Bd.add (ss.2.2.mono (show 29000 ≤ 29000 + 29000 by decide)) (Bd.mul sf.1 ss.2.1)) ((Bd.mul ss.1 sf.2.1).mono (by decide))).mono (by decide)⟩
  refine waw_cons <| wew_we <| we_neg <| we_int ⟨_, rfl, waw_cons <| wew_we <| we_var rfl <| waw_nil ⟨l1, l2, _, told, _, R, _, j, -1, _, s', rfl, rfl, w2, g2, pre_get (p1.trans p2) hss, s2, ss.mono (by decide), b1.2, by rw [List.length_append, l1']; show V.length + 1 + 1 ≤ _; omega, ?_⟩⟩
  have w3 := Bw.line (n := -1) w2 g2 (pre_get (p1.trans p2) hss) s2 (ss.mono (by decide)) b1.2
  refine hk _ _ _ w3 ((p1.trans p2).trans (List.prefix_append _ _)) ?_ ?_
  · rw [List.length_append, List.length_append, l1']; show V.length + 1 + 1 + 1 ≤ _; omega
  · rw [app_last, swap_zz]
end
end AW

set_option linter.all false
set_option maxRecDepth 100000
set_option maxHeartbeats 8000000
namespace AW
open PySem PySem.Spec PyProof.Rows L2 LamX Tbl
variable [Tbs]
section
variable {P : Program} {w : World} {K : PySem.W.Frag} {mg : Str → Option Value} {base : Heap}
def ginc : Ph → Nat → Nat
  | .x, n => n + 3
  | .y, n => n + 2
  | .a, _ => 0
theorem gb_inc (ph : Ph) (n m : Nat) : gb ph n m = m + ginc ph n := by cases ph <;> (simp only [gb, ginc]; try omega)
abbrev idD (i : Nat) : D := .int (i : Nat)
def boD : Option Nat → D
  | none => .non
  | some b => .int (b : Nat)
/-- the best one so far -/
def Best (ph : Ph) (n M : Nat) (V : List P3) : Option Nat → List P3 → Prop
  | none, bl => bl = []
  | some b, bl => ∃ g, bl = [g] ∧ V[b]? = some g ∧ Dom ph n M g ∧ meas ph g ≠ 0
/-- numbers of places -/
def Nos (V : List P3) (ids : List Nat) (ps : List P3) : Prop := ids.length = ps.length ∧ ∀ (c : Nat) (i : Nat) (p : P3), ids[c]? = some i → ps[c]? = some p → V[i]? = some p
theorem Nos.pre {V V' : List P3} {ids : List Nat} {ps : List P3} (h : Nos V ids ps) (hp : V <+: V') : Nos V' ids ps := ⟨h.1, fun c i p h1 h2 => pre_get hp (h.2 c i p h1 h2)⟩
theorem Nos.snoc {V : List P3} {ids : List Nat} {ps : List P3} {i : Nat} {p : P3} (h : Nos V ids ps) (hi : V[i]? = some p) : Nos V (ids ++ [i]) (ps ++ [p]) := by
  refine ⟨by rw [List.length_append, List.length_append, h.1]; rfl, fun c j q h1 h2 => ?_⟩
  have hl := h.1
  by_cases hc : c < ids.length
  · rw [List.getElem?_append_left hc] at h1
    rw [List.getElem?_append_left (by omega)] at h2
    exact h.2 c j q h1 h2
  · rw [List.getElem?_append_right (by omega)] at h1 h2
    have e1 : c - ids.length = 0 := by
      have := (List.getElem?_eq_some_iff.mp h1).1
      simp at this; omega
    rw [e1] at h1
    rw [← hl, e1] at h2
    cases h1; cases h2
    exact hi
theorem Nos.nil {V : List P3} : Nos V [] [] := ⟨rfl, fun c i p h => by simp at h⟩
theorem Nos.get {V : List P3} {ids : List Nat} {ps : List P3} (h : Nos V ids ps) {c i : Nat} (hi : ids[c]? = some i) : ∃ p, ps[c]? = some p ∧ V[i]? = some p := by
  have hl := (List.getElem?_eq_some_iff.mp hi).1
  have e : ps[c]? = some (ps[c]'(by have := h.1; omega)) := List.getElem?_eq_getElem _
  exact ⟨_, e, h.2 c i _ hi e⟩
theorem Best.pre {ph : Ph} {n M : Nat} {V V' : List P3} {b : Option Nat} {bl : List P3} (h : Best ph n M V b bl) (hp : V <+: V') : Best ph n M V' b bl := by
  cases b with
  | none => exact h
  | some b => obtain ⟨g, h1, h2, h3, h4⟩ := h; exact ⟨g, h1, pre_get hp h2, h3, h4⟩
theorem Best.mono {ph : Ph} {n M M' : Nat} {V : List P3} {b : Option Nat} {bl : List P3} (h : Best ph n M V b bl) (hm : M ≤ M') : Best ph n M' V b bl := by
  cases b with
  | none => exact h
  | some b => obtain ⟨g, h1, h2, h3, h4⟩ := h; exact ⟨g, h1, h2, h3.mono hm, h4⟩
/-- how great what is carried grows with so many places -/
def grw (ph : Ph) (n m c : Nat) : Nat := m + (c - 1) * ginc ph n
theorem grw_step (ph : Ph) (n m c : Nat) (hc : 1 ≤ c) : gb ph n (grw ph n m c) = grw ph n m (c + 1) := by
  rw [gb_inc]
  unfold grw
  obtain ⟨d, rfl⟩ : ∃ d, c = d + 1 := ⟨c - 1, by omega⟩
  show m + d * _ + _ = m + (d + 1) * _
  rw [Nat.add_mul]; omega
theorem grw_le (ph : Ph) (n m : Nat) {c d : Nat} (h : c ≤ d) : grw ph n m c ≤ grw ph n m d := Nat.add_le_add_left (Nat.mul_le_mul_right _ (by omega)) _
theorem ge_move {ps os : List P3} {p g g' p' : P3} (h : GE ps ([g] ++ os)) (k : GE [g, p] [g', p']) : GE (ps ++ [p]) ([g'] ++ (os ++ [p'])) := by
  refine (ge_app h (GE.refl [p])).trans ?_
  refine (ge_perm (S' := [g, p] ++ os) fun s => by simp [or_comm, or_left_comm]).trans ?_
  refine (ge_app k (GE.refl os)).trans ?_
  exact ge_perm fun s => by simp [or_comm, or_left_comm]
/-- what gathering brings -/
structure Gath (ph : Ph) (n m c : Nat) (V : List P3) (ps : List P3) (b : Option Nat) (bl : List P3) (os : List Nat) (ops : List P3) : Prop where
  be : Best ph n (grw ph n m c) V b bl
  no : Nos V os ops
  dm : ∀ o ∈ ops, Dom ph n (grw ph n m c) o ∧ meas ph o = 0
  ge : GE ps (bl ++ ops)
  ln : os.length + bl.length = ps.length
def pr_gathered (T : Tx K mg) : PrW := fun ds B O k => ∃ (ph : Ph) (n m : Nat) (l1 l2 : Addr) (V told : List P3) (ls : List (Nat × Int × Nat)) (R : OwL) (ids : List Nat) (ps : List P3), ds = [bwD T l1 l2, .lst (ids.map idD), meD T ph] ∧ O = bwO T l1 l2 V ls R ∧ Bw told V ls ∧ Nos V ids ps ∧ (∀ p ∈ ps, Dom ph n m p) ∧ n ≤ 8998 ∧ n + grw ph n m (ps.length) + 4 ≤ 29000 ∧ ps.length ≤ 20 ∧ V.length + ps.length * (2 * n + 3) + 2 * n + 4 ≤ 1000000 ∧
  ∀ (V' : List P3) (ls' : List (Nat × Int × Nat)) (b : Option Nat) (bl : List P3) (os : List Nat) (ops : List P3) (q : Addr), Bw told V' ls' → V <+: V' → V'.length ≤ V.length + ps.length * (2 * n + 3) + 1 → Gath ph n m ps.length V' ps b bl os ops → (∀ g ∈ bl, 0 < meas ph g) → k (.tup [boD b, .val (.ref q)]) (bwO T l1 l2 V' ls' ((q, .list (os.map idD)) :: R)) B
theorem at_map {α : Type} {f : α → D} {xs : List α} {i : Nat} {x : D} (h : (xs.map f)[i]? = some x) : ∃ a, xs[i]? = some a ∧ x = f a := by
  rw [List.getElem?_map] at h
  obtain ⟨a, h1, h2⟩ := Option.map_eq_some_iff.mp h
  exact ⟨a, h1, h2.symm⟩
theorem isN_boD (b : Option Nat) : isNon (boD b) = b.isNone := by cases b <;> rfl
theorem okD_gathered (T : Tx K mg) : FnOk P w K mg base (L2.CX P w) 10 T.a_gathered T.d_gathered P_gathered (spW K (pr_gathered T)) := by
  refine T.F_gathered.okX sc_gathered (spW_len fun ds B O k h => by obtain ⟨ph, n, m, l1, l2, V, told, ls, R, ids, ps, rfl, rfl, hw, hnos, hdom, hn, hg, hps, hlen, hk⟩ := h; rfl) (fun cdv A outer s H vs Q E hr h => ?_)
  have G_Brew_add_line : FnOk P w K mg base (L2.CX P w) 7 _ _ _ _ := okD_Brew_add_line T
  have G_divided : FnOk P w K mg base (L2.CX P w) 9 _ _ _ _ := okD_divided T
  have G_end_x : FnOk P w K mg base (L2.CX P w) 1 _ _ _ _ := okD_end_x T
  have G_end_y : FnOk P w K mg base (L2.CX P w) 1 _ _ _ _ := okD_end_y T
  have G_swept_area : FnOk P w K mg base (L2.CX P w) 1 _ _ _ _ := okD_swept_area T
  obtain ⟨G, ds, B, O, k, hs, hR, hO, ⟨ph, n, m, l1, l2, V, told, ls, R, ids, ps, rfl, rfl, hw, hnos, hdom, hn, hg, hps, hlen, hk⟩, hK⟩ := h
  refine ⟨_, (pss_cons (ps_set (i := 3) sc_gathered.nd rfl (.inl rfl) pe_non)
 (pss_cons (ps_set (i := 4) sc_gathered.nd rfl (.inl rfl) (pe_lst pa_nil))
 (pss_cons (ps_for (passes_of rfl) rfl (pi_list (pv 1)) (pg_name (i := 5) sc_gathered.nd rfl (.inl rfl))
 (pss_one (ps_if (pt_cmpR op_eq (pe_or2 (pe_callL (i := 2) G_end_x (hr.mono (by decide)) (by rfl) (by first | exact Or.inl rfl | exact Or.inr (Or.inl rfl) | exact Or.inr (Or.inr rfl)) T.F_end_x.kp T.b_end_x .nil passL (pa_cons (pe_ix ix_list (pe_fld (pv 0) rfl) (pv 5) (fun _ _ => rfl)) pa_nil)) (pe_or2 (pe_callL (i := 2) G_end_y (hr.mono (by decide)) (by rfl) (by first | exact Or.inl rfl | exact Or.inr (Or.inl rfl) | exact Or.inr (Or.inr rfl)) T.F_end_y.kp T.b_end_y .nil passL (pa_cons (pe_ix ix_list (pe_fld (pv 0) rfl) (pv 5) (fun _ _ => rfl)) pa_nil)) (pe_callL (i := 2) G_swept_area (hr.mono (by decide)) (by rfl) (by first | exact Or.inl rfl | exact Or.inr (Or.inl rfl) | exact Or.inr (Or.inr rfl)) T.F_swept_area.kp T.b_swept_area .nil passL (pa_cons (pe_ix ix_list (pe_fld (pv 0) rfl) (pv 5) (fun _ _ => rfl)) pa_nil)))) pe_int (nomark _))
 (pss_one (ps_expr (pe_bm PySem.F.plainAttrs_list PySem.F.slot_list_append PySem.F.type_list_append mt_append (pv 4) (pa_cons (pv 5) pa_nil))))
 (pss_one (ps_if (pt_cmp (pc_isN (pv 3)))
 (pss_one (ps_set (i := 3) sc_gathered.nd rfl (.inl rfl) (pv 5)))
 (pss_cons (ps_asg (pe_call G_divided (hr.mono (by decide)) (by rfl) T.g_divided T.F_divided.kp T.b_divided .nil passL (pa_cons (pv 0) (pa_cons (pv 3) (pa_cons (pv 5) (pa_cons (pv 2) pa_nil))))) (pg_tup rfl (pgs_cons (pg_name (i := 3) sc_gathered.nd rfl (.inl rfl)) (pgs_cons (pg_name (i := 6) sc_gathered.nd rfl (.inl rfl)) pgs_nil))))
 (pss_one (ps_expr (pe_bm PySem.F.plainAttrs_list PySem.F.slot_list_append PySem.F.type_list_append mt_append (pv 4) (pa_cons (pv 6) pa_nil))))))))))
 (pss_cons (ps_if (PW.pt (pw_and (pt_cmp (pc_notN (pv 3))) (pw_and1 (pt_cmpR op_lt (pe_or2 (pe_callL (i := 2) G_end_x (hr.mono (by decide)) (by rfl) (by first | exact Or.inl rfl | exact Or.inr (Or.inl rfl) | exact Or.inr (Or.inr rfl)) T.F_end_x.kp T.b_end_x .nil passL (pa_cons (pe_ix ix_list (pe_fld (pv 0) rfl) (pv 3) (fun _ _ => rfl)) pa_nil)) (pe_or2 (pe_callL (i := 2) G_end_y (hr.mono (by decide)) (by rfl) (by first | exact Or.inl rfl | exact Or.inr (Or.inl rfl) | exact Or.inr (Or.inr rfl)) T.F_end_y.kp T.b_end_y .nil passL (pa_cons (pe_ix ix_list (pe_fld (pv 0) rfl) (pv 3) (fun _ _ => rfl)) pa_nil)) (pe_callL (i := 2) G_swept_area (hr.mono (by decide)) (by rfl) (by first | exact Or.inl rfl | exact Or.inr (Or.inl rfl) | exact Or.inr (Or.inr rfl)) T.F_swept_area.kp T.b_swept_area .nil passL (pa_cons (pe_ix ix_list (pe_fld (pv 0) rfl) (pv 3) (fun _ _ => rfl)) pa_nil)))) pe_int (nomark _)))))
 (pss_one (ps_set (i := 3) sc_gathered.nd rfl (.inl rfl) (pe_meth (pv 0) T.cl_Brew T.M_Brew_add_line G_Brew_add_line (hr.mono (by decide)) T.b_Brew_add_line .nil passL (pa_cons pe_int (pa_cons (pe_un un_neg pe_int) (pa_cons (pv 3) pa_nil))))))
 pss_nil)
 (pss_one (ps_ret (pe_tup (pa_cons (pv 3) (pa_cons (pv 4) pa_nil))))))))), run_bodyW (ρ := [some (bwD T l1 l2), some (.lst (ids.map idD)), some (meD T ph), none, none, none, none]) hs hR hO hK rfl ?_⟩
  have z2 : 2 ≤ sizeLine := by decide
  have zL : 1000001 < sizeLine := by decide
  have hil := hnos.1
  refine ww_then (fun ρ' O' B' => ρ' = [some (bwD T l1 l2), some (.lst (ids.map idD)), some (meD T ph), some .non, none, none, none] ∧ O' = bwO T l1 l2 V ls R ∧ B = B') ?_ ?_
  · exact wx_ws <| ws_set <| we_non ⟨rfl, rfl, rfl⟩
  rintro _ _ _ ⟨rfl, rfl, rfl⟩
  refine ww_then (fun ρ' O' B' => ∃ q, ρ' = [some (bwD T l1 l2), some (.lst (ids.map idD)), some (meD T ph), some .non, some (.val (.ref q)), none, none] ∧ O' = (q, .list []) :: bwO T l1 l2 V ls R ∧ B = B') ?_ ?_
  · exact wx_newlist fun q => ⟨q, rfl, rfl, rfl⟩
  rintro _ _ _ ⟨q, rfl, rfl, rfl⟩
  refine ww_perm (O' := bwO T l1 l2 V ls ((q, .list []) :: R)) ((List.Perm.cons _ (List.Perm.swap _ _ _)).trans (List.Perm.swap _ _ _)) ?_
  refine ww_then (fun ρ' O' B' => ∃ (u : L2.V) (V' : List P3) (ls' : List (Nat × Int × Nat)) (b : Option Nat) (bl : List P3) (os : List Nat) (ops : List P3) (o5 o6 : Option D), ρ' = [some (bwD T l1 l2), some (.at_ u (.lst (ids.map idD))), some (meD T ph), some (boD b), some (.val (.ref q)), o5, o6] ∧ O' = bwO T l1 l2 V' ls' ((q, .list (os.map idD)) :: R) ∧ B = B' ∧ Bw told V' ls' ∧ V <+: V' ∧ V'.length ≤ V.length + ps.length * (2 * n + 3) ∧ Gath ph n m ps.length V' ps b bl os ops) ?_ ?_
  · refine wx_for_list (j := 1) rfl fun u => ⟨fun c ρ' O' B' => ∃ (V' : List P3) (ls' : List (Nat × Int × Nat)) (b : Option Nat) (bl : List P3) (os : List Nat) (ops : List P3) (o5 o6 : Option D), ρ' = [some (bwD T l1 l2), some (.at_ u (.lst (ids.map idD))), some (meD T ph), some (boD b), some (.val (.ref q)), o5, o6] ∧ O' = bwO T l1 l2 V' ls' ((q, .list (os.map idD)) :: R) ∧ B = B' ∧ Bw told V' ls' ∧ V <+: V' ∧ V'.length ≤ V.length + c * (2 * n + 3) ∧ Gath ph n m c V' (ps.take c) b bl os ops, ?_, fun c ρ' O' B' hI => ?_, fun c d ρ' O' B' hd hI => ?_, fun ρ' O' B' hI => ?_⟩
    · exact ⟨V, ls, none, [], [], [], _, _, rfl, rfl, rfl, hw, List.prefix_refl _, by omega, rfl, Nos.nil, (fun o h => nomatch h), GE.refl _, rfl⟩
    · obtain ⟨V', ls', b, bl, os, ops, o5, o6, rfl, _⟩ := hI
      rfl
    · obtain ⟨V', ls', b, bl, os, ops, o5, o6, rfl, rfl, rfl, hw', hp', hl', hG⟩ := hI
      obtain ⟨i, hi, rfl⟩ := at_map hd
      obtain ⟨p, hpc, hpV⟩ := hnos.get hi
      have hpV' := pre_get hp' hpV
      have hc : c < ps.length := (List.getElem?_eq_some_iff.mp hpc).1
      have dp := hdom p (List.mem_of_getElem? hpc)
      have tk : ps.take (c + 1) = ps.take c ++ [p] := by rw [List.take_add_one, hpc]; rfl
      have tl : (ps.take c).length = c := by rw [List.length_take]; omega
      have hos : os.length ≤ 20 := by have := hG.ln; rw [tl] at this; omega
      have hcm : c * (2 * n + 3) + (2 * n + 3) ≤ ps.length * (2 * n + 3) := by rw [← Nat.succ_mul]; exact Nat.mul_le_mul_right _ hc
      have hcm2 : (c + 1) * (2 * n + 3) = c * (2 * n + 3) + (2 * n + 3) := Nat.succ_mul _ _
      have gl := grw_le ph n m (show c ≤ c + 1 by omega)
      have gl2 := grw_le ph n m (show c + 1 ≤ ps.length by omega)
      have g0 : m ≤ grw ph n m c := Nat.le_add_right _ _
      refine wg_name ?_
      refine wx_ifW <| wtw_test <| wew_op <| me_call T ph rfl <| wew_at T rfl rfl hpV' ⟨p, rfl, wew_we <| we_int <| ro_eqI ⟨_, rfl, fun h0 => ?_, fun h0 => ?_⟩⟩
      · have h0 : meas ph p = 0 := of_decide_eq_true h0
        refine wx_app (n := 2) (i := 4) rfl rfl <| we_var rfl ⟨by rw [List.length_map]; omega, V', ls', b, bl, os ++ [i], ops ++ [p], _, _, rfl, ?_, rfl, hw', hp', by omega, hG.be.mono gl, hG.no.snoc hpV', fun o ho => ?_, ?_, ?_⟩
        · rw [List.map_append]; rfl
        · rcases List.mem_append.mp ho with h | h
          · exact ⟨(hG.dm o h).1.mono gl, (hG.dm o h).2⟩
          · rw [List.mem_singleton] at h; subst h; exact ⟨dp.mono (by omega), h0⟩
        · rw [tk, ← List.append_assoc]; exact ge_app hG.ge (GE.refl _)
        · have := hG.ln; rw [tl] at this; rw [tk, List.length_append, List.length_append, tl]; show os.length + 1 + _ = c + 1; omega
      · have h0 : meas ph p ≠ 0 := of_decide_eq_false h0
        refine wx_ifT <| wt_val <| we_isN <| we_var rfl ⟨_, rfl, fun hb => ?_, fun hb => ?_⟩
        · have hb : b = none := by rw [isN_boD] at hb; cases b with
            | none => rfl
            | some b => cases hb
          subst hb
          have eb : bl = [] := hG.be
          subst eb
          refine wx_ws <| ws_set <| we_var rfl ⟨V', ls', some i, [p], os, ops, _, _, rfl, rfl, rfl, hw', hp', by omega, ⟨p, rfl, hpV', dp.mono (by omega), h0⟩, hG.no, fun o ho => ⟨(hG.dm o ho).1.mono gl, (hG.dm o ho).2⟩, ?_, ?_⟩
          · rw [tk]
            exact (ge_app hG.ge (GE.refl [p])).trans (ge_perm fun s => by simp [or_comm])
          · have := hG.ln; rw [tl] at this; rw [tk, List.length_append, tl]; simp at this ⊢; omega
        · obtain ⟨b, rfl⟩ : ∃ b', b = some b' := by rw [isN_boD] at hb; cases b with
            | none => cases hb
            | some b => exact ⟨b, rfl⟩
          obtain ⟨g, rfl, hgV, dg, gnz⟩ := hG.be
          have ln := hG.ln
          rw [tl] at ln
          have c1 : 1 ≤ c := by simp at ln; omega
          have gs := grw_step ph n m c c1
          refine wx_cut (fun ρ' O' B' => ∃ (V2 : List P3) (ls2 : List (Nat × Int × Nat)) (i' j' : Nat) (h' l' : P3), ρ' = [some (bwD T l1 l2), some (.at_ u (.lst (ids.map idD))), some (meD T ph), some (.int (i' : Nat)), some (.val (.ref q)), some (.int (i : Nat)), some (.int (j' : Nat))] ∧ O' = bwO T l1 l2 V2 ls2 ((q, .list (os.map idD)) :: R) ∧ B = B' ∧ Bw told V2 ls2 ∧ V' <+: V2 ∧ V2.length ≤ V'.length + (2 * n + 3) ∧ V2[i']? = some h' ∧ V2[j']? = some l' ∧ GE [g, p] [h', l'] ∧ Dom ph n (grw ph n m (c + 1)) h' ∧ Dom ph n (grw ph n m (c + 1)) l' ∧ meas ph h' ≠ 0 ∧ meas ph l' = 0) ?_ ?_
          · refine wx_asgW <| wew_call <| waw_cons <| wew_we <| we_var rfl <| waw_cons <| wew_we <| we_var rfl <| waw_cons <| wew_we <| we_var rfl <| waw_cons <| wew_we <| we_var rfl <| waw_nil ⟨ph, n, grw ph n m c, l1, l2, V', told, ls', _, b, i, g, p, rfl, rfl, hw', hgV, hpV', dg, dp.mono g0, gnz, hn, by rw [gs]; omega, by omega, fun V2 ls2 i' j' h' l' w2 p2 len2 g2 g3 ge2 d2 d3 z2 z3 => wg_tup rfl <| wgs_cons <| wg_name <| wgs_cons <| wg_name <| wgs_nil ⟨V2, ls2, i', j', h', l', rfl, rfl, rfl, w2, p2, len2, g2, g3, ge2, by rw [← gs]; exact d2, by rw [← gs]; exact d3, z2, z3⟩⟩
          rintro _ _ _ ⟨V2, ls2, i', j', h', l', rfl, rfl, rfl, w2, p2, len2, g2, g3, ge2, d2, d3, z2', z3⟩
          refine wx_app (n := 2) (i := 4) rfl rfl <| we_var rfl ⟨by rw [List.length_map]; omega, V2, ls2, some i', [h'], os ++ [j'], ops ++ [l'], _, _, rfl, ?_, rfl, w2, hp'.trans p2, by omega, ⟨h', rfl, g2, d2, z2'⟩, (hG.no.pre p2).snoc g3, fun o ho => ?_, ?_, ?_⟩
          · rw [List.map_append]; rfl
          · rcases List.mem_append.mp ho with h | h
            · exact ⟨(hG.dm o h).1.mono gl, (hG.dm o h).2⟩
            · rw [List.mem_singleton] at h; subst h; exact ⟨d3, z3⟩
          · rw [tk]; exact ge_move hG.ge ge2
          · rw [tk, List.length_append, List.length_append, tl]; simp at ln ⊢; omega
    · obtain ⟨V', ls', b, bl, os, ops, o5, o6, rfl, rfl, rfl, hw', hp', hl', hG⟩ := hI
      rw [List.length_map, hil] at hl' hG
      rw [List.take_length] at hG
      exact ⟨u, V', ls', b, bl, os, ops, o5, o6, rfl, rfl, rfl, hw', hp', hl', hG⟩
  rintro _ _ _ ⟨u, V', ls', b, bl, os, ops, o5, o6, rfl, rfl, rfl, hw', hp', hl', hG⟩
  refine ww_then (fun ρ' O' B' => ∃ (V2 : List P3) (ls2 : List (Nat × Int × Nat)) (b2 : Option Nat) (bl2 : List P3), ρ' = [some (bwD T l1 l2), some (.at_ u (.lst (ids.map idD))), some (meD T ph), some (boD b2), some (.val (.ref q)), o5, o6] ∧ O' = bwO T l1 l2 V2 ls2 ((q, .list (os.map idD)) :: R) ∧ B = B' ∧ Bw told V2 ls2 ∧ V <+: V2 ∧ V2.length ≤ V.length + ps.length * (2 * n + 3) + 1 ∧ Gath ph n m ps.length V2 ps b2 bl2 os ops ∧ ∀ g ∈ bl2, 0 < meas ph g) ?_ ?_
  · refine wx_ifW <| wtw_and <| wtw_wt <| wt_val <| we_notN <| we_var rfl ⟨_, rfl, fun hb => ?_, fun hb => ⟨(fun h => nomatch h), fun _ => ?_⟩⟩
    · obtain ⟨b, rfl⟩ : ∃ b', b = some b' := by rw [isN_boD] at hb; cases b with
        | none => cases hb
        | some b => exact ⟨b, rfl⟩
      obtain ⟨g, rfl, hgV, dg, gnz⟩ := hG.be
      refine wtw_test <| wew_op <| me_call T ph rfl <| wew_at T rfl rfl hgV ⟨g, rfl, wew_we <| we_int <| ro_b0 ⟨_, rfl, fun h0 => ?_, fun h0 => ?_⟩⟩
      · have h0 : meas ph g < 0 := of_decide_eq_true h0
        have sg : SzP 60000 g := dom_sz dg (by omega)
        have s0 : SzP 60000 e0 := ⟨Nat.one_le_two_pow, Nat.one_le_two_pow, Nat.one_le_two_pow⟩
        have g0 : V'[0]? = some e0 := pre_get hw'.pre rfl
        have e1 : mu e0 (pw g (-1)) = iv g := by rw [e0_mu, iv_pw1]
        refine wx_setW <| wew_meth <| wew_we <| we_var rfl ⟨_, _, rfl, by decide +kernel, waw_cons <| wew_we <| we_int <| waw_cons <| wew_we <| we_neg <| we_int ⟨_, rfl, waw_cons <| wew_we <| we_var rfl <| waw_nil ⟨l1, l2, V', told, ls', _, 0, b, -1, e0, g, rfl, rfl, hw', g0, hgV, s0, sg, (bd1 (by decide)).2, by omega, ?_⟩⟩⟩
        rw [e1]
        have w2 := Bw.line (n := -1) hw' g0 hgV s0 sg (bd1 (by decide)).2
        rw [e1] at w2
        have p2 : V' <+: V' ++ [iv g] := List.prefix_append _ _
        refine ⟨V' ++ [iv g], _, some V'.length, [iv g], rfl, rfl, rfl, w2, hp'.trans p2, by rw [List.length_append]; show _ + 1 ≤ _; omega, ⟨⟨iv g, rfl, app_last, dg.iv, ?_⟩, hG.no.pre p2, hG.dm, hG.ge.trans (ge_app (ge_iv g) (GE.refl _)), hG.ln⟩, fun z hz => ?_⟩
        · rw [meas_iv dg]; omega
        · rw [List.mem_singleton] at hz; subst hz; rw [meas_iv dg]; omega
      · have h0 : ¬ meas ph g < 0 := of_decide_eq_false h0
        refine wx_next ⟨V', ls', some b, [g], rfl, rfl, rfl, hw', hp', by omega, hG, fun z hz => ?_⟩
        rw [List.mem_singleton] at hz; subst hz; omega
    · have hb : b = none := by rw [isN_boD] at hb; cases b with
        | none => rfl
        | some b => cases hb
      subst hb
      have eb : bl = [] := hG.be
      exact wx_next ⟨V', ls', none, bl, rfl, rfl, rfl, hw', hp', by omega, hG, fun z hz => by rw [eb] at hz; cases hz⟩
  rintro _ _ _ ⟨V2, ls2, b2, bl2, rfl, rfl, rfl, w2, p2, len2, hG2, hpos⟩
  exact ww_ret <| wew_we <| we_tup <| wa_cons <| we_var rfl <| wa_cons <| we_var rfl <| wa_nil ⟨z2, hk V2 ls2 b2 bl2 os ops q w2 p2 len2 hG2 hpos⟩
end
end AW

set_option linter.all false
set_option maxRecDepth 100000
set_option maxHeartbeats 8000000
namespace AW
open PySem PySem.Spec PyProof.Rows L2 LamX Tbl
variable [Tbs]
section
variable {P : Program} {w : World} {K : PySem.W.Frag} {mg : Str → Option Value} {base : Heap}
/-- numbers small enough for a table to be made of so many places -/
def TbOk (n m k : Nat) : Prop := k ≤ 8 ∧ grw .y (grw .x n m k) (grw .x n m k + n + 2) k + n ≤ 8990
theorem sz_nx {n M1 M2 : Nat} {f s : P3} (df : Dom .x n M1 f) (ds : Dom .y M1 M2 s) : SzP (2 * M1 + M2 + n + 8) (nxP .y f s) := by
  have b1 : Bd (n + 1) f.1 := bd_ab df.1 (by omega)
  have b2 : Bd (M1 + 1) f.2.1 := bd_ab df.2.1 (by omega)
  have b3 : Bd (n + M1 + 4) f.2.2 := (dom_sz df (Nat.le_refl _)).2.2
  have c2 : Bd (M1 + 1) s.2.1 := bd_ab ds.2.1 (by omega)
  have c3 : Bd (M2 + 1) s.2.2 := by
    have e : uu s = 2 * s.2.2 := by unfold uu; rw [ds.1]; omega
    have h := ds.2.2
    rw [e] at h
    exact bd_ab (n := M2) (by unfold Tbl.ab at *; omega) (by omega)
  have q : Bd (M1 + 1) (-(f.2.1.fdiv s.2.1)) := (Bd.fdiv b2).neg
  have sx := ds.1
  have e : nxP .y f s = (f.1, f.2.1 + -(f.2.1.fdiv s.2.1) * s.2.1, f.2.2 + -(f.2.1.fdiv s.2.1) * s.2.2 + f.1 * (-(f.2.1.fdiv s.2.1) * s.2.1)) := by
    refine p3_ext ?_ ?_ ?_
    · show f.1 + -(f.2.1.fdiv s.2.1) * s.1 = f.1; rw [sx]; omega
    · rfl
    · show f.2.2 + (-(f.2.1.fdiv s.2.1) * s.2.2 + s.1 * s.2.1 * tr _) + _ = _
      rw [sx, Int.zero_mul, Int.zero_mul, Int.add_zero]; rfl
  rw [e]
  have k1 : Bd (M1 + 1 + (M1 + 1)) (-(f.2.1.fdiv s.2.1) * s.2.1) := Bd.mul q c2
  have k2 : Bd (M1 + 1 + (M2 + 1)) (-(f.2.1.fdiv s.2.1) * s.2.2) := Bd.mul q c3
  have k3 := Bd.mul b1 k1
  have k4 : Bd (2 * M1 + M2 + n + 6) f.2.2 := b3.mono (by omega)
  have k5 : Bd (2 * M1 + M2 + n + 6) (-(f.2.1.fdiv s.2.1) * s.2.2) := k2.mono (by omega)
  have k6 := Bd.add k4 k5
  have k7 : Bd (2 * M1 + M2 + n + 7) (f.1 * (-(f.2.1.fdiv s.2.1) * s.2.1)) := k3.mono (by omega)
  have k8 := Bd.add k6 k7
  have k9 : Bd (2 * M1 + M2 + n + 7) f.2.1 := b2.mono (by omega)
  have k10 : Bd (2 * M1 + M2 + n + 7) (-(f.2.1.fdiv s.2.1) * s.2.1) := k1.mono (by omega)
  exact ⟨b1.mono (by omega), (Bd.add k9 k10).mono (by omega), k8.mono (by omega)⟩
def idsO (a b : Option Nat) : List Nat := a.toList ++ b.toList
theorem filt_bo (a b : Option Nat) : (([a, b].filter Option.isSome).map boD) = (idsO a b).map idD := by
  cases a <;> cases b <;> rfl
/-- a row: how great it is -/
def SzR (r : P3) : Prop := SzP 29000 r ∧ Bd 8999 r.1 ∧ Bd 8999 r.2.1
def pr_made_numbers (T : Tx K mg) : PrW := fun ds B O k => ∃ (n m : Nat) (l1 l2 : Addr) (told : List P3) (R : OwL), ds = [bwD T l1 l2, .int (told.length : Nat)] ∧ O = bwO T l1 l2 (e0 :: told) [] R ∧ (∀ p ∈ told, Dom .x n m p) ∧ TbOk n m told.length ∧
  ∀ (V' : List P3) (ls' : List (Nat × Int × Nat)) (ids : List Nat) (home : Option Nat) (L : List P3) (c : Int), Bw told V' ls' → V'.length ≤ 600000 → Nos V' ids L → Led L c → GE told (L ++ [zz c]) → (home = none ∧ c = 0 ∨ ∃ b, home = some b ∧ V'[b]? = some (zz c) ∧ 0 < c) → (∀ r ∈ L, SzR r) → Bd 8999 c → k (.tup [.lst (ids.map idD), boD home]) (bwO T l1 l2 V' ls' R) B
theorem rg_ids (c : Nat) : (rgI 1 ((c : Int) + 1)).map D.int = ((List.range c).map (· + 1)).map idD := by
  unfold rgI
  rw [show ((c : Int) + 1 - 1).toNat = c by omega, List.map_map, List.map_map]
  refine List.map_congr_left fun i hi => ?_
  show D.int (1 + (i : Int)) = D.int ((i + 1 : Nat) : Int)
  congr 1; push_cast; omega
theorem nos_told (told : List P3) : Nos (e0 :: told) ((List.range told.length).map (· + 1)) told := by
  refine ⟨by simp, fun c i p h1 h2 => ?_⟩
  rw [List.getElem?_map] at h1
  obtain ⟨j, hj, rfl⟩ := Option.map_eq_some_iff.mp h1
  have hc := (List.getElem?_eq_some_iff.mp h2).1
  rw [List.getElem?_range hc] at hj
  cases hj
  exact h2
theorem y_of_x {n M : Nat} {p : P3} (h : Dom .x n M p) (h0 : meas .x p = 0) : Dom .y M (M + n + 2) p := ⟨h0, h.2.1, h.2.2⟩
theorem a_of_y {n M k : Nat} {p : P3} (h : Dom .y n M p) (h0 : meas .y p = 0) (hk : M ≤ k) : Dom .a k 0 p := by
  have e : uu p = 2 * p.2.2 := by unfold uu; rw [h.1]; omega
  have h3 := h.2.2
  rw [e] at h3
  have := pw2_le hk
  refine ⟨h.1, h0, ?_⟩
  unfold Tbl.ab at *
  omega
theorem zero_a {n m : Nat} {p : P3} (h : Dom .a n m p) (h0 : meas .a p = 0) : p = e0 := p3_ext h.1 h.2.1 h0
theorem nos_one {V : List P3} {i : Nat} {p : P3} (h : V[i]? = some p) : Nos V [i] [p] := Nos.nil.snoc h
/-- what holds when ends are done -/
structure Mid (told : List P3) (n M2 : Nat) (V : List P3) (ls : List (Nat × Int × Nat)) (b1 b2 : Option Nat) (L0 : List P3) (ss : List Nat) (ts : List P3) : Prop where
  bw : Bw told V ls
  ln : V.length ≤ 330000
  no : Nos V (idsO b1 b2) L0
  raw : Raw L0
  ge : GE told (L0 ++ ts)
  ns : Nos V ss ts
  da : ∀ t ∈ ts, Dom .a (M2 + n) 0 t
  cm : ∀ r s, L0 = [r, s] → zz (r.1 * s.2.1) ∈ ts
  sz : ∀ r ∈ L0, SzR r
  tl : ts.length ≤ 9
theorem szr_low {c : Int} (cp : 0 < c) (bc : Bd 8999 c) {r : P3} (h : SzR r) : SzR (lowA c r) := by
  rw [lowA_eq cp]
  exact ⟨⟨h.1.1, h.1.2.1, (Bd.of_lt (Int.emod_nonneg _ (by omega)) (Int.emod_lt_of_pos _ cp) bc).mono (by decide)⟩, h.2⟩
theorem okD_made_numbers (T : Tx K mg) : FnOk P w K mg base (L2.CX P w) 11 T.a_made_numbers T.d_made_numbers P_made_numbers (spW K (pr_made_numbers T)) := by
  refine T.F_made_numbers.okX sc_made_numbers (spW_len fun ds B O k h => by obtain ⟨n, m, l1, l2, told, R, rfl, rfl, hdom, hok, hk⟩ := h; rfl) (fun cdv A outer s H vs Q E hr h => ?_)
  have G_gathered : FnOk P w K mg base (L2.CX P w) 10 _ _ _ _ := okD_gathered T
  have G_lowered : FnOk P w K mg base (L2.CX P w) 8 _ _ _ _ := okD_lowered T
  have G_swapped : FnOk P w K mg base (L2.CX P w) 8 _ _ _ _ := okD_swapped T
  obtain ⟨G, ds, B, O, k, hs, hR, hO, ⟨n, m, l1, l2, told, R, rfl, rfl, hdom, hok, hk⟩, hK⟩ := h
  refine ⟨_, (pss_cons (ps_asg (pe_call G_gathered (hr.mono (by decide)) (by rfl) T.g_gathered T.F_gathered.kp T.b_gathered .nil passL (pa_cons (pv 0) (pa_cons (pe_listRg (by rfl) (by rfl) T.n_list (prg_2 (by rfl) T.n_range pe_int (pe_op op_add (pv 1) pe_int))) (pa_cons (pe_glob (v := .ref T.a_end_x) (by rfl) T.g_end_x rfl) pa_nil)))) (pg_tup rfl (pgs_cons (pg_name (i := 2) sc_made_numbers.nd rfl (.inl rfl)) (pgs_cons (pg_name (i := 3) sc_made_numbers.nd rfl (.inl rfl)) pgs_nil))))
 (pss_cons (ps_asg (pe_call G_gathered (hr.mono (by decide)) (by rfl) T.g_gathered T.F_gathered.kp T.b_gathered .nil passL (pa_cons (pv 0) (pa_cons (pv 3) (pa_cons (pe_glob (v := .ref T.a_end_y) (by rfl) T.g_end_y rfl) pa_nil)))) (pg_tup rfl (pgs_cons (pg_name (i := 4) sc_made_numbers.nd rfl (.inl rfl)) (pgs_cons (pg_name (i := 5) sc_made_numbers.nd rfl (.inl rfl)) pgs_nil))))
 (pss_cons (ps_if (PW.pt (pw_and (pt_cmp (pc_notN (pv 2))) (pw_and1 (pt_cmp (pc_notN (pv 4))))))
 (pss_cons (ps_set (i := 2) sc_made_numbers.nd rfl (.inl rfl) (pe_call G_lowered (hr.mono (by decide)) (by rfl) T.g_lowered T.F_lowered.kp T.b_lowered .nil passL (pa_cons (pv 0) (pa_cons (pv 2) (pa_cons (pv 4) (pa_cons (pe_glob (v := .ref T.a_end_y) (by rfl) T.g_end_y rfl) pa_nil))))))
 (pss_one (ps_expr (pe_bm PySem.F.plainAttrs_list PySem.F.slot_list_append PySem.F.type_list_append mt_append (pv 5) (pa_cons (pe_call G_swapped (hr.mono (by decide)) (by rfl) T.g_swapped T.F_swapped.kp T.b_swapped .nil passL (pa_cons (pv 0) (pa_cons (pv 2) (pa_cons (pv 4) pa_nil)))) pa_nil)))))
 pss_nil)
 (pss_cons (ps_asg (pe_call G_gathered (hr.mono (by decide)) (by rfl) T.g_gathered T.F_gathered.kp T.b_gathered .nil passL (pa_cons (pv 0) (pa_cons (pv 5) (pa_cons (pe_glob (v := .ref T.a_swept_area) (by rfl) T.g_swept_area rfl) pa_nil)))) (pg_tup rfl (pgs_cons (pg_name (i := 6) sc_made_numbers.nd rfl (.inr rfl)) (pgs_cons (pg_name (i := 7) sc_made_numbers.nd rfl (.inl rfl)) pgs_nil))))
 (pss_cons (ps_setLc (i := 8) (tt := (tB (tNotN (tVar 9)))) (te := (tVar 9)) (own := [("number", 9)]) (g := gName 9) (by rfl) sc_made_numbers.nd rfl rfl (sw_true rfl rfl rfl (by decide +kernel)) (pi_tup (pe_tup (pa_cons (pv 2) (pa_cons (pv 4) pa_nil)))) (blkOk_by (own := [("number", 9)]) (N := N_made_numbers) (sc := defScope s_made_numbers) (by decide +kernel)) (fun _ _ _ _ _ => pg_name (i := 9) sc_made_numbers.nd rfl (Or.inl rfl)) (fun _ _ _ _ _ => (pts_one (pt_cmp (pc_notN (pv 9))))) (fun _ _ _ _ _ => (pv 9)))
 (pss_cons (ps_if (pt_cmp (pc_notN (pv 6)))
 (pss_one (ps_setLc (i := 8) (te := (tCall (spW K (pr_lowered T)) [] E0 (tCons (tVar 0) (tCons (tVar 9) (tCons (tVar 6) (tCons (tC (.ref T.a_swept_area)) tNil)))))) (own := [("number", 9)]) (g := gName 9) (by rfl) sc_made_numbers.nd rfl rfl (sw_true rfl rfl rfl (by decide +kernel)) (pi_list (pv 8)) (blkOk_by (own := [("number", 9)]) (N := N_made_numbers) (sc := defScope s_made_numbers) (by decide +kernel)) (fun _ _ _ _ _ => pg_name (i := 9) sc_made_numbers.nd rfl (Or.inl rfl)) (fun _ _ _ _ _ => pts_nil) (fun _ _ _ _ _ => (pe_call G_lowered (hr.mono (by decide)) (by rfl) T.g_lowered T.F_lowered.kp T.b_lowered .nil passL (pa_cons (pv 0) (pa_cons (pv 9) (pa_cons (pv 6) (pa_cons (pe_glob (v := .ref T.a_swept_area) (by rfl) T.g_swept_area rfl) pa_nil))))))))
 pss_nil)
 (pss_one (ps_ret (pe_tup (pa_cons (pv 8) (pa_cons (pv 6) pa_nil))))))))))), run_bodyW (ρ := [some (bwD T l1 l2), some (.int (told.length : Nat)), none, none, none, none, none, none, none, none]) hs hR hO hK rfl ?_⟩
  have z2 : 2 ≤ sizeLine := by decide
  have zL : 1000001 < sizeLine := by decide
  have z62 : (100 : Int) < 2 ^ 62 := by decide
  obtain ⟨ht8, hM⟩ := hok
  obtain ⟨M1, hM1⟩ : ∃ M, M = grw .x n m told.length := ⟨_, rfl⟩
  obtain ⟨M2, hM2⟩ : ∃ M, M = grw .y M1 (M1 + n + 2) told.length := ⟨_, rfl⟩
  rw [← hM1, ← hM2] at hM
  have hM12 : M1 + n + 2 ≤ M2 := by rw [hM2]; exact Nat.le_add_right _ _
  have hl8 : told.length * (2 * n + 3) ≤ 8 * (2 * n + 3) := Nat.mul_le_mul_right _ ht8
  refine ww_then (fun ρ' O' B' => ∃ (V' : List P3) (ls' : List (Nat × Int × Nat)) (b : Option Nat) (bl : List P3) (os : List Nat) (ops : List P3) (q : Addr), ρ' = [some (bwD T l1 l2), some (.int (told.length : Nat)), some (boD b), some (.val (.ref q)), none, none, none, none, none, none] ∧ O' = bwO T l1 l2 V' ls' ((q, .list (os.map idD)) :: R) ∧ B = B' ∧ Bw told V' ls' ∧ V'.length ≤ 9 + 8 * (2 * n + 3) + 1 ∧ Gath .x n m told.length V' told b bl os ops ∧ ∀ g ∈ bl, 0 < meas .x g) ?_ ?_
  · refine wx_asgW <| wew_call <| waw_cons <| wew_we <| we_var rfl <| waw_cons <| wew_we <| we_listRg2 <| we_int <| we_op <| we_var rfl <| we_int <| ro_i0 ⟨1, (told.length : Int) + 1, rfl, rfl, ?_, ?_⟩
    · unfold RgOk; omega
    rw [rg_ids]
    refine waw_cons <| wew_we <| we_val <| waw_nil ⟨.x, n, m, l1, l2, _, told, [], R, (List.range told.length).map (· + 1), told, rfl, rfl, .start, nos_told told, hdom, by omega, by rw [← hM1]; omega, by omega, by rw [List.length_cons]; omega, fun V' ls' b bl os ops q hw hp hl hG hpos => wg_tup rfl <| wgs_cons <| wg_name <| wgs_cons <| wg_name <| wgs_nil ⟨V', ls', b, bl, os, ops, q, rfl, rfl, rfl, hw, ?_, hG, hpos⟩⟩
    rw [List.length_cons] at hl; omega
  rintro _ _ _ ⟨V1, ls1, b1, bl1, os1, ops1, q1, rfl, rfl, rfl, w1, len1, G1', pos1⟩
  refine ww_perm (O' := (q1, .list (os1.map idD)) :: bwO T l1 l2 V1 ls1 R) ((List.Perm.swap _ _ _).trans (List.Perm.cons _ (List.Perm.swap _ _ _))) <| ww_tell (i := 3) rfl ?_
  have ln1 := G1'.ln
  have lo1 : ops1.length = os1.length := G1'.no.1.symm
  have G1d : ∀ o ∈ ops1, Dom .y M1 (M1 + n + 2) o := fun o ho => y_of_x (by rw [hM1]; exact (G1'.dm o ho).1) (G1'.dm o ho).2
  have gr1 : grw .y M1 (M1 + n + 2) ops1.length ≤ M2 := by rw [hM2]; exact grw_le _ _ _ (by omega)
  have hl8' : ops1.length * (2 * M1 + 3) ≤ 8 * (2 * M1 + 3) := Nat.mul_le_mul_right _ (by omega)
  refine ww_then (fun ρ' O' B' => ∃ (V' : List P3) (ls' : List (Nat × Int × Nat)) (b : Option Nat) (bl : List P3) (os : List Nat) (ops : List P3) (q : Addr), ρ' = [some (bwD T l1 l2), some (.int (told.length : Nat)), some (boD b1), some (.lst (os1.map idD)), some (boD b), some (.val (.ref q)), none, none, none, none] ∧ O' = bwO T l1 l2 V' ls' ((q, .list (os.map idD)) :: R) ∧ B = B' ∧ Bw told V' ls' ∧ V1 <+: V' ∧ V'.length ≤ 300000 ∧ Gath .y M1 (M1 + n + 2) ops1.length V' ops1 b bl os ops ∧ ∀ g ∈ bl, 0 < meas .y g) ?_ ?_
  · refine wx_asgW <| wew_call <| waw_cons <| wew_we <| we_var rfl <| waw_cons <| wew_we <| we_var rfl <| waw_cons <| wew_we <| we_val <| waw_nil ⟨.y, M1, M1 + n + 2, l1, l2, V1, told, ls1, R, os1, ops1, rfl, rfl, w1, G1'.no, G1d, by omega, by omega, by omega, by omega, fun V' ls' b bl os ops q hw hp hl hG hpos => wg_tup rfl <| wgs_cons <| wg_name <| wgs_cons <| wg_name <| wgs_nil ⟨V', ls', b, bl, os, ops, q, rfl, rfl, rfl, hw, hp, by omega, hG, hpos⟩⟩
  rintro _ _ _ ⟨V2, ls2, b2, bl2, os2, ops2, q2, rfl, rfl, rfl, w2, p12, len2, G2', pos2⟩
  have ln2 := G2'.ln
  have lo2 : ops2.length = os2.length := G2'.no.1.symm
  have da2 : ∀ t ∈ ops2, Dom .a (M2 + n) 0 t := fun t ht => a_of_y (G2'.dm t ht).1 (G2'.dm t ht).2 (by omega)
  refine ww_then (fun ρ' O' B' => ∃ (V' : List P3) (ls' : List (Nat × Int × Nat)) (b1' : Option Nat) (L0 : List P3) (ss : List Nat) (ts : List P3), ρ' = [some (bwD T l1 l2), some (.int (told.length : Nat)), some (boD b1'), some (.lst (os1.map idD)), some (boD b2), some (.val (.ref q2)), none, none, none, none] ∧ O' = bwO T l1 l2 V' ls' ((q2, .list (ss.map idD)) :: R) ∧ B = B' ∧ Mid told n M2 V' ls' b1' b2 L0 ss ts) ?_ ?_
  · have B1 := G1'.be.pre p12
    have ge12 : GE told (bl1 ++ (bl2 ++ ops2)) := G1'.ge.trans (ge_app (GE.refl _) G2'.ge)
    have one1 : ∀ {b : Nat} {g : P3}, b1 = some b → bl1 = [g] → V2[b]? = some g → Dom .x n M1 g → b2 = none → bl2 = [] → Mid told n M2 V2 ls2 b1 b2 [g] os2 ops2 := fun {b g} e1 e2 hg dg e3 e4 => by
      subst e1 e2 e3 e4
      refine ⟨w2, by omega, nos_one hg, .inr (.inl ⟨g, rfl, .inl (pos1 g (by simp))⟩), ge12, G2'.no, da2, fun r s h => by simp at h, fun r hr => ?_, by omega⟩
      rw [List.mem_singleton] at hr; subst hr
      exact ⟨dom_sz dg (by omega), bd_ab dg.1 (by omega), bd_ab dg.2.1 (by omega)⟩
    refine wx_ifT <| wt_and <| wt_val <| we_notN <| we_var rfl ⟨_, rfl, fun hb1 => ?_, fun hb1 => ⟨(fun h => nomatch h), fun _ => ?_⟩⟩
    · obtain ⟨i1, rfl⟩ : ∃ b', b1 = some b' := by rw [isN_boD] at hb1; cases b1 with
        | none => cases hb1
        | some b => exact ⟨b, rfl⟩
      obtain ⟨f, rfl, fV, df, fnz⟩ := B1
      rw [← hM1] at df
      have fx : 0 < f.1 := pos1 f (by simp)
      refine wt_val <| we_notN <| we_var rfl ⟨_, rfl, fun hb2 => ?_, fun hb2 => ?_⟩
      · obtain ⟨i2, rfl⟩ : ∃ b', b2 = some b' := by rw [isN_boD] at hb2; cases b2 with
          | none => cases hb2
          | some b => exact ⟨b, rfl⟩
        obtain ⟨s', rfl, sV, dgs, snz⟩ := G2'.be
        have dgs := dgs.mono gr1
        have sp : 0 < s'.2.1 := pos2 s' (by simp)
        have sx : s'.1 = 0 := dgs.1
        have szs : SzP 29000 s' := dom_sz dgs (by omega)
        have szf' : SzP 29000 (nxP .y f s') := (sz_nx df dgs).mono (by omega)
        obtain ⟨ny1, ny2, ny3⟩ := nx_y fx sx sp
        refine wx_cut (fun ρ' O' B' => ∃ (V' : List P3) (ls' : List (Nat × Int × Nat)) (i' : Nat), ρ' = [some (bwD T l1 l2), some (.int (told.length : Nat)), some (.int (i' : Nat)), some (.lst (os1.map idD)), some (.int (i2 : Nat)), some (.val (.ref q2)), none, none, none, none] ∧ O' = bwO T l1 l2 V' ls' ((q2, .list (os2.map idD)) :: R) ∧ B = B' ∧ Bw told V' ls' ∧ V2 <+: V' ∧ V'.length ≤ V2.length + 1 ∧ V'[i']? = some (nxP .y f s')) ?_ ?_
        · exact wx_setW <| wew_call <| waw_cons <| wew_we <| we_var rfl <| waw_cons <| wew_we <| we_var rfl <| waw_cons <| wew_we <| we_var rfl <| waw_cons <| wew_we <| we_val <| waw_nil ⟨.y, l1, l2, V2, told, ls2, _, i1, i2, f, s', rfl, rfl, w2, fV, sV, dom_sz df (by omega), szs, snz, bd_ab dgs.2.1 (by omega), by omega, fun V' ls' i' hw hp hl hg => ⟨V', ls', i', rfl, rfl, rfl, hw, hp, hl, hg⟩⟩
        rintro _ _ _ ⟨V3, ls3, i3, rfl, rfl, rfl, w3, p23, len3, g3⟩
        refine wx_appV <| we_var rfl ⟨q2, rfl, ⟨_, List.mem_cons_of_mem _ (List.mem_cons_of_mem _ (List.mem_cons_self ..))⟩, wew_call <| waw_cons <| wew_we <| we_var rfl <| waw_cons <| wew_we <| we_var rfl <| waw_cons <| wew_we <| we_var rfl <| waw_nil ⟨l1, l2, V3, told, ls3, _, i3, i2, nxP .y f s', s', rfl, rfl, w3, g3, pre_get p23 sV, szf', szs, by omega, fun V4 ls4 i4 w4 p34 len4 g4 => ⟨2, _, rfl, by rw [List.length_map]; omega, V4, ls4, some i3, [nxP .y f s', s'], os2 ++ [i4], ops2 ++ [zz ((nxP .y f s').1 * s'.2.1 - s'.1 * (nxP .y f s').2.1)], rfl, by rw [List.map_append]; rfl, rfl, ⟨w4, by omega, ?_, .inr (.inr ⟨_, _, rfl, sx, by rw [ny1]; exact fx, sp, ny2, ny3⟩), ge_both G1'.ge G2'.ge sx, ((G2'.no.pre p23).pre p34).snoc g4, fun t ht => ?_, fun r s h => ?_, fun r hr => ?_, ?_⟩⟩⟩⟩
        · exact (nos_one (pre_get p34 g3)).snoc (pre_get (p23.trans p34) sV)
        · rcases List.mem_append.mp ht with h | h
          · exact da2 t h
          · rw [List.mem_singleton] at h
            subst h
            refine ⟨rfl, rfl, ?_⟩
            show Tbl.ab ((nxP .y f s').1 * s'.2.1 - s'.1 * (nxP .y f s').2.1) ≤ _
            rw [sx, Int.zero_mul, Int.sub_zero, ny1, ab_mul, Int.pow_add]
            have h1 := mulle (ab_nn f.1) df.1 (ab_nn s'.2.1) dgs.2.1
            have h2 : (2 : Int) ^ n * 2 ^ M1 ≤ 2 ^ n * 2 ^ M2 := Int.mul_le_mul_of_nonneg_left (pw2_le (show M1 ≤ M2 by omega)) (by have := p2_nn n; omega)
            rw [Int.mul_comm ((2 : Int) ^ n) (2 ^ M2)] at h2
            omega
        · injection h with h1 h2
          injection h2 with h2 _
          subst h1 h2
          refine List.mem_append_right _ (List.mem_singleton.mpr ?_)
          rw [sx, Int.zero_mul, Int.sub_zero]
        · simp only [List.mem_cons, List.not_mem_nil, or_false] at hr
          rcases hr with rfl | rfl
          · exact ⟨szf', by rw [ny1]; exact bd_ab df.1 (by omega), Bd.of_lt ny2 ny3 (bd_ab dgs.2.1 (by omega))⟩
          · exact ⟨szs, by rw [sx]; exact Nat.one_le_two_pow, bd_ab dgs.2.1 (by omega)⟩
        · rw [List.length_append]; show _ + 1 ≤ 9; omega
      · have hb2 : b2 = none := by rw [isN_boD] at hb2; cases b2 with
          | none => rfl
          | some b => cases hb2
        subst hb2
        have e2 : bl2 = [] := G2'.be
        exact wx_next ⟨V2, ls2, some i1, [f], os2, ops2, rfl, rfl, rfl, one1 rfl rfl fV df rfl e2⟩
    · have hb1 : b1 = none := by rw [isN_boD] at hb1; cases b1 with
        | none => rfl
        | some b => cases hb1
      subst hb1
      have e1 : bl1 = [] := B1
      subst e1
      cases b2 with
      | none =>
        have e2 : bl2 = [] := G2'.be
        subst e2
        exact wx_next ⟨V2, ls2, none, [], os2, ops2, rfl, rfl, rfl, ⟨w2, by omega, Nos.nil, .inl rfl, ge12, G2'.no, da2, (fun r s h => nomatch h), (fun r h => nomatch h), by omega⟩⟩
      | some i2 =>
        obtain ⟨s', e2, sV, dgs, snz⟩ := G2'.be
        subst e2
        have dgs := dgs.mono gr1
        have sp : 0 < s'.2.1 := pos2 s' (by simp)
        refine wx_next ⟨V2, ls2, none, [s'], os2, ops2, rfl, rfl, rfl, ⟨w2, by omega, nos_one sV, .inr (.inl ⟨s', rfl, .inr ⟨dgs.1, sp⟩⟩), ge12, G2'.no, da2, fun r s h => by simp at h, fun r hr => ?_, by omega⟩⟩
        rw [List.mem_singleton] at hr; subst hr
        exact ⟨dom_sz dgs (by omega), by rw [dgs.1]; exact Nat.one_le_two_pow, bd_ab dgs.2.1 (by omega)⟩
  rintro _ _ _ ⟨V3, ls3, b1', L0, ss, ts, rfl, rfl, rfl, hmid⟩
  refine ww_perm (O' := (q2, .list (ss.map idD)) :: bwO T l1 l2 V3 ls3 R) ((List.Perm.swap _ _ _).trans (List.Perm.cons _ (List.Perm.swap _ _ _))) <| ww_tell (i := 5) rfl ?_
  have hga : grw .a (M2 + n) 0 ts.length = 0 := by unfold grw ginc; simp
  have hl9 : ts.length * (2 * (M2 + n) + 3) ≤ 9 * (2 * (M2 + n) + 3) := Nat.mul_le_mul_right _ hmid.tl
  have hml := hmid.ln
  have htl := hmid.tl
  refine ww_then (fun ρ' O' B' => ∃ (V' : List P3) (ls' : List (Nat × Int × Nat)) (b : Option Nat) (o7 : Option D) (c : Int) (R' : OwL), ρ' = [some (bwD T l1 l2), some (.int (told.length : Nat)), some (boD b1'), some (.lst (os1.map idD)), some (boD b2), some (.lst (ss.map idD)), some (boD b), o7, none, none] ∧ O' = bwO T l1 l2 V' ls' R' ∧ (∃ x, R' = x :: R) ∧ B = B' ∧ Bw told V' ls' ∧ V3 <+: V' ∧ V'.length ≤ 500000 ∧ (b = none ∧ c = 0 ∧ Led L0 0 ∧ GE told (L0 ++ [zz 0]) ∨ ∃ i, b = some i ∧ V'[i]? = some (zz c) ∧ 0 < c ∧ Bd 8999 c ∧ Led (L0.map (lowA c)) c ∧ GE told (L0.map (lowA c) ++ [zz c]))) ?_ ?_
  · refine wx_asgW <| wew_call <| waw_cons <| wew_we <| we_var rfl <| waw_cons <| wew_we <| we_var rfl <| waw_cons <| wew_we <| we_val <| waw_nil ⟨.a, M2 + n, 0, l1, l2, V3, told, ls3, R, ss, ts, rfl, rfl, hmid.bw, hmid.ns, hmid.da, by omega, by rw [hga]; omega, by omega, by omega, fun V' ls' b bl os ops q hw hp hl hG hpos => wg_tup rfl <| wgs_cons <| wg_name <| wgs_cons <| wg_name <| wgs_nil ?_⟩
    have hz : ∀ o ∈ ops, o = e0 := fun o ho => zero_a (hG.dm o ho).1 (hG.dm o ho).2
    cases b with
    | none =>
      have eb : bl = [] := hG.be
      have hge := hG.ge
      rw [eb] at hge
      obtain ⟨r1, r2⟩ := raw_none hmid.raw hmid.ge hge hz hmid.cm
      exact ⟨V', ls', none, _, 0, _, rfl, rfl, ⟨_, rfl⟩, rfl, hw, hp, by omega, .inl ⟨rfl, rfl, r1, r2⟩⟩
    | some i =>
      obtain ⟨g, eb, gV, dg, gnz⟩ := hG.be
      have hge := hG.ge
      rw [eb] at hge
      have gp : 0 < g.2.2 := hpos g (by rw [eb]; simp)
      have eg : g = zz g.2.2 := p3_ext dg.1 dg.2.1 rfl
      rw [eg] at hge
      obtain ⟨r1, r2⟩ := raw_home hmid.raw gp hmid.ge hge hz hmid.cm
      exact ⟨V', ls', some i, _, g.2.2, _, rfl, rfl, ⟨_, rfl⟩, rfl, hw, hp, by omega, .inr ⟨i, rfl, by rw [← eg]; exact gV, gp, bd_ab dg.2.2 (by omega), r1, r2⟩⟩
  rintro _ _ _ ⟨V4, ls4, b3, o7, c, _, rfl, rfl, ⟨x3, rfl⟩, rfl, w4, p34, len4, hc⟩
  have nos0 := hmid.no.pre p34
  refine ww_perm (O' := x3 :: bwO T l1 l2 V4 ls4 R) ((List.Perm.swap _ _ _).trans (List.Perm.cons _ (List.Perm.swap _ _ _))) <| ww_drop1 ?_
  refine ww_then (fun ρ' O' B' => ρ' = [some (bwD T l1 l2), some (.int (told.length : Nat)), some (boD b1'), some (.lst (os1.map idD)), some (boD b2), some (.lst (ss.map idD)), some (boD b3), o7, some (.lst ((idsO b1' b2).map idD)), none] ∧ O' = bwO T l1 l2 V4 ls4 R ∧ B = B') ?_ ?_
  · refine wx_ws <| ws_set <| we_lc_filtT (E1 := E0) (f := boD) <| we_tup <| wa_cons <| we_var rfl <| wa_cons <| we_var rfl <| wa_nil ⟨z2, [b1', b2], Option.isSome, rfl, by show 2 < sizeLine; omega, fun x hx kb hkb => ?_, fun x hx k' hk' => we_var rfl hk', ?_⟩
    · refine wt_val <| we_notN <| we_var rfl ⟨_, rfl, ?_⟩
      rw [isN_boD]
      cases x <;> exact hkb
    · rw [filt_bo]; exact ⟨rfl, rfl, rfl⟩
  rintro _ _ _ ⟨rfl, rfl, rfl⟩
  refine ww_then (fun ρ' O' B' => ∃ (V' : List P3) (ls' : List (Nat × Int × Nat)) (ids : List Nat) (L : List P3) (o9 : Option D), ρ' = [some (bwD T l1 l2), some (.int (told.length : Nat)), some (boD b1'), some (.lst (os1.map idD)), some (boD b2), some (.lst (ss.map idD)), some (boD b3), o7, some (.lst (ids.map idD)), o9] ∧ O' = bwO T l1 l2 V' ls' R ∧ B = B' ∧ Bw told V' ls' ∧ V'.length ≤ 600000 ∧ Nos V' ids L ∧ Led L c ∧ GE told (L ++ [zz c]) ∧ (b3 = none ∧ c = 0 ∨ ∃ b, b3 = some b ∧ V'[b]? = some (zz c) ∧ 0 < c) ∧ (∀ r ∈ L, SzR r) ∧ Bd 8999 c) ?_ ?_
  · refine wx_ifT <| wt_val <| we_notN <| we_var rfl ⟨_, rfl, fun hb => ?_, fun hb => ?_⟩
    · rcases hc with ⟨e3, _⟩ | ⟨i, e3, iV, cp, bc, hL, hge⟩
      · rw [e3] at hb; cases hb
      · subst e3
        have hnl := nos0.1
        have hL2 : (idsO b1' b2).length ≤ 2 := by unfold idsO; rw [List.length_append]; have h1 : b1'.toList.length ≤ 1 := by cases b1' <;> simp
                                                  have h2 : b2.toList.length ≤ 1 := by cases b2 <;> simp
                                                  omega
        refine wx_setW <| wew_lcL (E1 := E0) <| we_var rfl ⟨_, rfl, by rw [List.length_map]; omega, fun k' out O2 B2 => ∃ (V' : List P3) (ls' : List (Nat × Int × Nat)) (ids' : List Nat), out = ids'.map idD ∧ O2 = bwO T l1 l2 V' ls' R ∧ B = B2 ∧ Bw told V' ls' ∧ V4 <+: V' ∧ V'.length ≤ V4.length + k' ∧ Nos V' ids' ((L0.take k').map (lowA c)), ⟨V4, ls4, [], rfl, rfl, rfl, w4, List.prefix_refl _, Nat.le_refl _, Nos.nil⟩, fun k' x out O2 B2 hx hI => ?_, fun out O2 B2 _ hI => ?_⟩
        · obtain ⟨V', ls', ids', rfl, rfl, rfl, w', p', len', no'⟩ := hI
          obtain ⟨j, hj, rfl⟩ := at_map hx
          obtain ⟨r, hr, rV⟩ := nos0.get hj
          have hj2 := (List.getElem?_eq_some_iff.mp hj).1
          have rV' := pre_get p' rV
          have szr := (hmid.sz r (List.mem_of_getElem? hr)).1
          refine wew_call <| waw_cons <| wew_we <| we_var rfl <| waw_cons <| wew_we <| we_var rfl <| waw_cons <| wew_we <| we_var rfl <| waw_cons <| wew_we <| we_val <| waw_nil ⟨.a, l1, l2, V', told, ls', R, j, i, r, zz c, rfl, rfl, w', rV', pre_get p' iV, szr, ⟨Nat.one_le_two_pow, Nat.one_le_two_pow, bc.mono (by decide)⟩, by show c ≠ 0; omega, bc, by omega, fun V5 ls5 i5 w5 p5 len5 g5 => ⟨V5, ls5, ids' ++ [i5], by rw [List.map_append]; rfl, rfl, rfl, w5, p'.trans p5, by omega, ?_⟩⟩
          have tk : (L0.take (k' + 1)).map (lowA c) = (L0.take k').map (lowA c) ++ [lowA c r] := by rw [List.take_add_one, hr, List.map_append]; rfl
          rw [tk]
          exact (no'.pre p5).snoc g5
        · obtain ⟨V', ls', ids', rfl, rfl, rfl, w', p', len', no'⟩ := hI
          rw [List.length_map] at no' len'
          rw [hnl, List.take_length] at no'
          refine ⟨V', ls', ids', _, _, rfl, rfl, rfl, w', by omega, no', hL, hge, .inr ⟨i, rfl, pre_get p' iV, cp⟩, fun r hr => ?_, bc⟩
          obtain ⟨r0, hr0, rfl⟩ := List.mem_map.mp hr
          exact szr_low cp bc (hmid.sz r0 hr0)
    · rcases hc with ⟨e3, e4, hL, hge⟩ | ⟨i, e3, _⟩
      · subst e3 e4
        exact wx_next ⟨V4, ls4, _, L0, _, rfl, rfl, rfl, w4, by omega, nos0, hL, hge, .inl ⟨rfl, rfl⟩, hmid.sz, Nat.one_le_two_pow⟩
      · rw [e3] at hb; cases hb
  rintro _ _ _ ⟨V5, ls5, ids, L, o9, rfl, rfl, rfl, w5, len5, no5, hL, hge, hh, hsr, hbc⟩
  exact ww_ret <| wew_we <| we_tup <| wa_cons <| we_var rfl <| wa_cons <| we_var rfl <| wa_nil ⟨z2, hk V5 ls5 ids b3 L c w5 len5 no5 hL hge hh hsr hbc⟩
end
end AW

set_option linter.all false
set_option maxRecDepth 100000
set_option maxHeartbeats 8000000
namespace AW
open PySem PySem.Spec PyProof.Rows L2 LamX Tbl
variable [Tbs]
section
variable {P : Program} {w : World} {K : PySem.W.Frag} {mg : Str → Option Value} {base : Heap}
abbrev tbN : List Str := ["told", "ledge", "home", "recipe", "made"]
abbrev tbF (T : Tx K mg) (told L : List P3) (c : Int) (ls : List (Nat × Int × Nat)) (mids : List Nat) : List D := [.tup (told.map (plp T)), .tup (L.map (plp T)), .int c, .tup (ls.map lnD), .tup (mids.map idD)]
abbrev tbD (T : Tx K mg) (told L : List P3) (c : Int) (ls : List (Nat × Int × Nat)) (mids : List Nat) : D := .ins T.C_Table tbN (tbF T told L c ls mids)
/-- what a table is -/
structure TabOk (told L : List P3) (c : Int) (ls : List (Nat × Int × Nat)) (mids : List Nat) : Prop where
  led : Led L c
  ge : GE told (L ++ [zz c])
  sz : ∀ r ∈ L, SzR r
  bc : Bd 8999 c
  bw : ∃ V, Bw told V ls ∧ V.length ≤ 600000 ∧ Nos V mids (L ++ if 0 < c then [zz c] else [])
def pr_Table_init (T : Tx K mg) : List D → Int → (List D → Int → Prop) → EW → Prop := fun ds B k e => ∃ (n m : Nat) (told : List P3), ds = [.lst (told.map (plp T))] ∧ (∀ p ∈ told, Dom .x n m p) ∧ TbOk n m told.length ∧ ∀ L c ls mids, TabOk told L c ls mids → k (tbF T told L c ls mids) B
theorem okD_Table_init (T : Tx K mg) : FnOk P w K mg base (L2.CX P w) 12 T.a_Table_init T.d_Table_init P_Table_init (spI K T.C_Table tbN (pr_Table_init T)) := by
  have G_check_places : FnOk P w K mg base (L2.CX P w) 4 _ _ _ _ := okD_check_places T
  have G_made_numbers : FnOk P w K mg base (L2.CX P w) 11 _ _ _ _ := okD_made_numbers T
  have G_Brew_init : FnOk P w K mg base (L2.CX P w) 7 _ _ _ _ := okD_Brew_init T
  refine T.F_Table_init.okX sc_Table_init (fun vs H Q E h => ?_) (fun cdv A outer s H vs Q E hr h => ?_)
  · obtain ⟨p, dx, ws, G, ds, B, k, e, rfl, hp, gp, gdx, ne, hd, hs, hR, ⟨n, m, told, rfl, _⟩, hK, hX⟩ := h
    rw [List.length_cons, ← hR.length]
    rfl
  · obtain ⟨p, dx, ws, G, ds, B, k, e, rfl, hp, gp, gdx, ne, hd, hs, hR, ⟨n, m, told, rfl, hdom, hok, hk⟩, hK, hX⟩ := h
    have ht8 := hok.1
    have zL : 1000001 < sizeLine := by decide
    have n1 : ∀ q ∈ ([("told" : Str)] : List Str), q ≠ ("ledge" : Str) := by decide +kernel
    have n2 : ∀ q ∈ ([("told" : Str), "ledge"] : List Str), q ≠ ("home" : Str) := by decide +kernel
    have n3 : ∀ q ∈ ([("told" : Str), "ledge", "home"] : List Str), q ≠ ("recipe" : Str) := by decide +kernel
    have n4 : ∀ q ∈ ([("told" : Str), "ledge", "home", "recipe"] : List Str), q ≠ ("made" : Str) := by decide +kernel
    refine ⟨_, (pss_cons (ps_expr (pe_call G_check_places (hr.mono (by decide)) (by rfl) T.g_check_places T.F_check_places.kp T.b_check_places .nil passL (pa_cons (pv 1) pa_nil)))
 (pss_cons (ps_if (pt_cmpR op_gt (pe_callB call_len_seq (by rfl) T.n_len (by decide +kernel) (pa_cons (pv 1) pa_nil)) (pe_glob (v := .int 8) (by rfl) T.gc_MOST_TOLD ⟨_, rfl⟩) (nomark _))
 (pss_one ps_never)
 pss_nil)
 (pss_cons (ps_fld (pv 0) (pe_callTy call_tuple_of (by rfl) T.n_tuple (by decide +kernel) (pa_cons (pv 1) pa_nil)) rfl)
 (pss_cons (ps_set (i := 2) sc_Table_init.nd rfl (.inr rfl) (pe_make T.M_Brew G_Brew_init (hr.mono (by decide)) (by rfl) T.g_C_Brew T.b_Brew_init .nil passL (pa_cons (pe_fld (pv 0) rfl) pa_nil)))
 (pss_cons (ps_asg (pe_call G_made_numbers (hr.mono (by decide)) (by rfl) T.g_made_numbers T.F_made_numbers.kp T.b_made_numbers .nil passL (pa_cons (pv 2) (pa_cons (pe_callB call_len_seq (by rfl) T.n_len (by decide +kernel) (pa_cons (pe_fld (pv 0) rfl) pa_nil)) pa_nil))) (pg_tup rfl (pgs_cons (pg_name (i := 3) sc_Table_init.nd rfl (.inl rfl)) (pgs_cons (pg_name (i := 4) sc_Table_init.nd rfl (.inl rfl)) pgs_nil))))
 (pss_cons (ps_fld (pv 0) (pe_callTy call_tuple_of (by rfl) T.n_tuple (by decide +kernel) (pa_cons (pe_lc (te := (tOp (rIxL K) (tFld K (tVar 2) "places") (tVar 5))) (own := [("number", 5)]) (g := gName 5) (by rfl) sc_Table_init.nd (pi_list (pv 3)) (blkOk_by (own := [("number", 5)]) (N := N_Table_init) (sc := defScope s_Table_init) (by decide +kernel)) (fun _ _ _ _ _ => pg_name (i := 5) sc_Table_init.nd rfl (Or.inl rfl)) (fun _ _ _ _ _ => pts_nil) (fun _ _ _ _ _ => (pe_ix ix_list (pe_fld (pv 2) rfl) (pv 5) (fun _ _ => rfl)))) pa_nil)) rfl)
 (pss_cons (ps_fld (pv 0) (pe_ifExp (pt_cmp (pc_isN (pv 4))) pe_int (pe_fld (pe_ix ix_list (pe_fld (pv 2) rfl) (pv 4) (fun _ _ => rfl)) rfl)) rfl)
 (pss_cons (ps_fld (pv 0) (pe_callTy call_tuple_of (by rfl) T.n_tuple (by decide +kernel) (pa_cons (pe_fld (pv 2) rfl) pa_nil)) rfl)
 (pss_one (ps_fld (pv 0) (pe_ifExp (pt_cmp (pc_isN (pv 4))) (pe_callTy call_tuple_of (by rfl) T.n_tuple (by decide +kernel) (pa_cons (pv 3) pa_nil)) (pe_tup (StX.pa_star (pv 3) (pa_cons (pv 4) pa_nil)))) rfl)))))))))), run_init (kf := fun fs O' B' => fs.map (·.1) = tbN ∧ k (fs.map (·.2)) B') hp gp hs hR rfl (fun fs us O' B' G' H' hf ex g2 h2 hr2 ow2 hpn => ?_) ?_⟩
    · obtain ⟨e1, hf⟩ := hf
      rw [e1] at h2
      refine hK _ us B' G' H' hf ex.le ex.sub (fun a o z n nb nt => ex.fr a o (by rw [hide1 nb]; exact z) n nt) g2 h2 ?_ hr2
      have h3 := hr2.length
      have h4 := congrArg List.length e1
      rw [List.length_map] at h3 h4
      show 5 = _
      exact h4.symm.trans h3
    · have R0 : ∀ {P : List (Option D) → Prop}, True := fun {_} => trivial
      refine wx_seq <| wx_ws <| ws_drop <| we_call <| wa_cons <| we_var rfl <| wa_nil ⟨false, told.map (plp T), rfl, fun d hd => ?_, ?_⟩
      · obtain ⟨q, _, rfl⟩ := List.mem_map.mp hd
        exact ⟨q, rfl⟩
      refine wx_seq <| wx_ws <| ws_if <| wt_test <| we_op <| we_lenL <| wa_cons <| we_var rfl <| wa_nil ⟨_, rfl, we_int <| ro_b0 ⟨_, rfl, fun h => ?_, fun _ => ws_next ?_⟩⟩
      · have h := of_decide_eq_true h
        rw [List.length_map] at h
        omega
      refine wx_cut (fun ρ' O' B' => ρ' = [some (.val (.ref p)), some (.lst (told.map (plp T))), none, none, none, none] ∧ O' = [(p, .obj T.C_Table dx [("told", .tup (told.map (plp T)))])] ∧ B = B') ?_ ?_
      · exact wx_fldS (i := 0) (C := T.C_Table) (dx := dx) rfl <| wew_we <| we_tupleL <| wa_cons <| we_var rfl <| wa_nil ⟨_, rfl, 0, [], rfl, T.cl_Table, T.na_Table_told, by decide, (fun q hq => nomatch hq), rfl, rfl, rfl⟩
      rintro _ _ _ ⟨rfl, rfl, rfl⟩
      refine wx_cut (fun ρ' O' B' => ∃ l1 l2, ρ' = [some (.val (.ref p)), some (.lst (told.map (plp T))), some (bwD T l1 l2), none, none, none] ∧ O' = [(l2, .list []), (l1, .list ((e0 :: told).map (plp T))), (p, .obj T.C_Table dx [("told", .tup (told.map (plp T)))])] ∧ B = B') ?_ ?_
      · exact wx_setW <| wew_makeW <| waw_cons <| wew_fldS (i := 0) (n := 0) rfl rfl T.cl_Table T.na_Table_told rfl <| waw_nil ⟨told, rfl, by omega, fun l1 l2 => ⟨l1, l2, rfl, rfl, rfl⟩⟩
      rintro _ _ _ ⟨l1, l2, rfl, rfl, rfl⟩
      refine wx_perm (O' := bwO T l1 l2 (e0 :: told) [] [(p, .obj T.C_Table dx [("told", .tup (told.map (plp T)))])]) (List.Perm.swap ..) ?_
      refine wx_cut (fun ρ' O' B' => ∃ (V : List P3) (ls : List (Nat × Int × Nat)) (ids : List Nat) (home : Option Nat) (L : List P3) (c : Int), ρ' = [some (.val (.ref p)), some (.lst (told.map (plp T))), some (bwD T l1 l2), some (.lst (ids.map idD)), some (boD home), none] ∧ O' = bwO T l1 l2 V ls [(p, .obj T.C_Table dx [("told", .tup (told.map (plp T)))])] ∧ B = B' ∧ Bw told V ls ∧ V.length ≤ 600000 ∧ Nos V ids L ∧ Led L c ∧ GE told (L ++ [zz c]) ∧ (home = none ∧ c = 0 ∨ ∃ b, home = some b ∧ V[b]? = some (zz c) ∧ 0 < c) ∧ (∀ r ∈ L, SzR r) ∧ Bd 8999 c) ?_ ?_
      · refine wx_asgW <| wew_call <| waw_cons <| wew_we <| we_var rfl <| waw_cons <| wew_lenT <| wew_fldS (i := 0) (n := 2) rfl rfl T.cl_Table T.na_Table_told rfl ⟨_, rfl, ?_⟩
        rw [List.length_map]
        exact waw_nil ⟨n, m, l1, l2, told, _, rfl, rfl, hdom, hok, fun V ls ids home L c hw hl hn hL hg hh hsr hbc => wg_tup rfl <| wgs_cons <| wg_name <| wgs_cons <| wg_name <| wgs_nil ⟨V, ls, ids, home, L, c, rfl, rfl, rfl, hw, hl, hn, hL, hg, hh, hsr, hbc⟩⟩
      rintro _ _ _ ⟨V, ls, ids, home, L, c, rfl, rfl, rfl, hw, hlen, hn, hL, hg, hh, hsr, hbc⟩
      have hil := hn.1
      have hL2 := led_len hL
      refine wx_cut (fun ρ' O' B' => ρ' = [some (.val (.ref p)), some (.lst (told.map (plp T))), some (bwD T l1 l2), some (.lst (ids.map idD)), some (boD home), none] ∧ O' = bwO T l1 l2 V ls [(p, .obj T.C_Table dx [("told", .tup (told.map (plp T))), ("ledge", .tup (L.map (plp T)))])] ∧ B = B') ?_ ?_
      · refine wx_fldS (i := 0) (C := T.C_Table) (dx := dx) rfl <| wew_tupleL <| wew_lcL (E1 := E0) <| we_var rfl ⟨_, rfl, by rw [List.length_map]; omega, fun k' out O2 B2 => out = (L.take k').map (plp T) ∧ O2 = bwO T l1 l2 V ls [(p, .obj T.C_Table dx [("told", .tup (told.map (plp T)))])] ∧ B = B2, ⟨rfl, rfl, rfl⟩, fun k' x out O2 B2 hx hI => ?_, fun out O2 B2 _ hI => ?_⟩
        · obtain ⟨rfl, rfl, rfl⟩ := hI
          obtain ⟨j, hj, rfl⟩ := at_map hx
          obtain ⟨r, hr, rV⟩ := hn.get hj
          exact wew_at T rfl rfl rV ⟨by rw [List.take_add_one, hr, List.map_append]; rfl, rfl, rfl⟩
        · obtain ⟨rfl, rfl, rfl⟩ := hI
          rw [List.length_map, hil, List.take_length]
          exact ⟨_, rfl, 2, _, rfl, T.cl_Table, T.na_Table_ledge, by simp, n1, rfl, rfl, rfl⟩
      rintro _ _ _ ⟨rfl, rfl, rfl⟩
      refine wx_cut (fun ρ' O' B' => ρ' = [some (.val (.ref p)), some (.lst (told.map (plp T))), some (bwD T l1 l2), some (.lst (ids.map idD)), some (boD home), none] ∧ O' = bwO T l1 l2 V ls [(p, .obj T.C_Table dx [("told", .tup (told.map (plp T))), ("ledge", .tup (L.map (plp T))), ("home", .int c)])] ∧ B = B') ?_ ?_
      · have fin : ∀ {κ : KX}, κ.nx [some (.val (.ref p)), some (.lst (told.map (plp T))), some (bwD T l1 l2), some (.lst (ids.map idD)), some (boD home), none] (bwO T l1 l2 V ls [(p, .obj T.C_Table dx [("told", .tup (told.map (plp T))), ("ledge", .tup (L.map (plp T))), ("home", .int c)])]) B → ∃ (n : Nat) (fs : List (Str × D)), (bwO T l1 l2 V ls [(p, .obj T.C_Table dx [("told", .tup (told.map (plp T))), ("ledge", .tup (L.map (plp T)))])])[n]? = some (p, .obj T.C_Table dx fs) ∧ Cls K T.C_Table ∧ NoAttr K T.C_Table "home" ∧ fs.length < 1000 ∧ (∀ q ∈ fs.map (·.1), q ≠ ("home" : Str)) ∧ κ.nx [some (.val (.ref p)), some (.lst (told.map (plp T))), some (bwD T l1 l2), some (.lst (ids.map idD)), some (boD home), none] ((bwO T l1 l2 V ls [(p, .obj T.C_Table dx [("told", .tup (told.map (plp T))), ("ledge", .tup (L.map (plp T)))])]).set n (p, .obj T.C_Table dx (fs ++ [(("home" : Str), D.int c)]))) B := fun h => ⟨2, _, rfl, T.cl_Table, T.na_Table_home, by simp, n2, h⟩
        rcases hh with ⟨rfl, rfl⟩ | ⟨b, rfl, hb, cp⟩
        · exact wx_fldS (i := 0) (C := T.C_Table) (dx := dx) rfl <| wew_ifE <| wtw_wt <| wt_val <| we_isN <| we_var rfl ⟨_, rfl, (fun _ => wew_we <| we_int <| fin ⟨rfl, rfl, rfl⟩), fun h => nomatch h⟩
        · refine wx_fldS (i := 0) (C := T.C_Table) (dx := dx) rfl <| wew_ifE <| wtw_wt <| wt_val <| we_isN <| we_var rfl ⟨_, rfl, (fun h => nomatch h), fun _ => ?_⟩
          exact wew_fldG <| wew_at T rfl rfl hb ⟨_, _, _, _, rfl, T.cl_Place, T.na_Place_area, rfl, fin ⟨rfl, rfl, rfl⟩⟩
      rintro _ _ _ ⟨rfl, rfl, rfl⟩
      refine wx_cut (fun ρ' O' B' => ρ' = [some (.val (.ref p)), some (.lst (told.map (plp T))), some (bwD T l1 l2), some (.lst (ids.map idD)), some (boD home), none] ∧ O' = bwO T l1 l2 V ls [(p, .obj T.C_Table dx [("told", .tup (told.map (plp T))), ("ledge", .tup (L.map (plp T))), ("home", .int c), ("recipe", .tup (ls.map lnD))])] ∧ B = B') ?_ ?_
      · exact wx_fldS (i := 0) (C := T.C_Table) (dx := dx) rfl <| wew_tupleV <| we_fld <| we_var rfl ⟨_, _, _, _, rfl, T.cl_Brew, T.na_Brew_lines, rfl, l2, 1, _, rfl, rfl, 2, _, rfl, T.cl_Table, T.na_Table_recipe, by simp, n3, rfl, rfl, rfl⟩
      rintro _ _ _ ⟨rfl, rfl, rfl⟩
      have fin : ∀ mids : List Nat, Nos V mids (L ++ if 0 < c then [zz c] else []) → ∃ (n : Nat) (fs : List (Str × D)), (bwO T l1 l2 V ls [(p, .obj T.C_Table dx [("told", .tup (told.map (plp T))), ("ledge", .tup (L.map (plp T))), ("home", .int c), ("recipe", .tup (ls.map lnD))])])[n]? = some (p, .obj T.C_Table dx fs) ∧ Cls K T.C_Table ∧ NoAttr K T.C_Table "made" ∧ fs.length < 1000 ∧ (∀ q ∈ fs.map (·.1), q ≠ ("made" : Str)) ∧ ∃ (n' : Nat) (fs' : List (Str × D)), ((bwO T l1 l2 V ls [(p, .obj T.C_Table dx [("told", .tup (told.map (plp T))), ("ledge", .tup (L.map (plp T))), ("home", .int c), ("recipe", .tup (ls.map lnD))])]).set n (p, .obj T.C_Table dx (fs ++ [(("made" : Str), D.tup (mids.map idD))])))[n']? = some (p, .obj T.C_Table dx fs') ∧ fs'.map (·.1) = tbN ∧ k (fs'.map (·.2)) B := fun mids hm => ⟨2, _, rfl, T.cl_Table, T.na_Table_made, by simp, n4, 2, _, rfl, rfl, hk L c ls mids ⟨hL, hg, hsr, hbc, V, hw, hlen, hm⟩⟩
      rcases hh with ⟨rfl, rfl⟩ | ⟨b, rfl, hb, cp⟩
      · refine wx_fldS (i := 0) (C := T.C_Table) (dx := dx) rfl <| wew_ifE <| wtw_wt <| wt_val <| we_isN <| we_var rfl ⟨_, rfl, (fun _ => ?_), fun h => nomatch h⟩
        exact wew_we <| we_tupleL <| wa_cons <| we_var rfl <| wa_nil ⟨_, rfl, fin ids (by rw [if_neg (by omega), List.append_nil]; exact hn)⟩
      · refine wx_fldS (i := 0) (C := T.C_Table) (dx := dx) rfl <| wew_ifE <| wtw_wt <| wt_val <| we_isN <| we_var rfl ⟨_, rfl, (fun h => nomatch h), fun _ => ?_⟩
        have hm : Nos V (ids ++ [b]) (L ++ if 0 < c then [zz c] else []) := by rw [if_pos cp]; exact hn.snoc hb
        have em : D.tup ((ids ++ [b]).map idD) = D.tup (ids.map idD ++ [boD (some b)]) := by rw [List.map_append]; rfl
        have hf := fin (ids ++ [b]) hm
        rw [em] at hf
        exact wew_we <| we_tup <| wa_star <| we_var rfl ⟨_, .inl rfl, wa_cons <| we_var rfl <| wa_nil ⟨by rw [List.length_append, List.length_map]; show _ + 1 ≤ _; omega, hf⟩⟩
end
end AW

set_option linter.all false
set_option maxRecDepth 100000
set_option maxHeartbeats 8000000
namespace AW
open PySem PySem.Spec PyProof.Rows L2 LamX Tbl
variable [Tbs]
section
variable {P : Program} {w : World} {K : PySem.W.Frag} {mg : Str → Option Value} {base : Heap}
abbrev penF : D := .pen "at" "rest"
def pr_l_begin (T : Tx K mg) : Pr := fun ds B k e => ∃ ns : List Int, ds = [.scr ns] ∧ ns.length ≤ 63 ∧ 0 ≤ B ∧ k penF B
theorem okD_l_begin (T : Tx K mg) : FnOk P w K mg base (L2.CX P w) 1 T.a_l_begin T.d_l_begin P_l_begin (spD K (pr_l_begin T)) :=
  (ok_l_begin T).imp fun vs H Q E ⟨G, ds, B, k, e, hs, hr, ⟨ns, ed, hl, hB, h⟩, hk, hx⟩ => by
    subst ed
    obtain ⟨v, _, rfl, ⟨hT, a, rfl, hS⟩, rfl⟩ := hr
    refine ⟨a, ns, rfl, (Le.of_sub (B := B) (B' := B) hs (Int.le_refl _)).seqL hS, hl, fun p c H' ss np nc ne hp hc => ?_⟩
    have none_of : ∀ q, H q = none → G q = none := fun q z => by
      cases w : G q with
      | none => rfl
      | some u => rw [hs _ _ w] at z; cases z
    have le : Le G B (upd (upd G p (.dK (penE "at" "rest" c 0 0))) c (.lst ((tapeN ns).map V.int))) B := Le.of_sub (fun b o z => by rw [upd_ne (ne_of_none z (none_of c nc)), upd_ne (ne_of_none z (none_of p np))]; exact z) (Int.le_refl _)
    refine hk penF _ B (upd (upd G p (.dK (penE "at" "rest" c 0 0))) c (.lst ((tapeN ns).map V.int))) H' h ⟨le, fun b o z => ?_, fun b o z n _ => ?_⟩ ⟨le.tb hT, p, c, tapeN ns, 0, 0, rfl, by rw [upd_ne ne.symm, upd_same], upd_same, ⟨(tapeN_len hl).2, fun _ _ => (tapeN_len hl).1⟩, Int.le_refl _, hB⟩
    · by_cases h1 : b = c
      · subst h1; rw [upd_same] at z; cases z; exact hc
      · rw [upd_ne h1] at z
        by_cases h2 : b = p
        · subst h2; rw [upd_same] at z; cases z; exact hp
        · rw [upd_ne h2] at z; exact ss _ _ (hs _ _ z)
    · exact ⟨ss _ _ z, by rw [upd_ne (ne_of_none z nc), upd_ne (ne_of_none z np)]; exact n⟩
def pr_l_draw (T : Tx K mg) : Pr := fun ds B k e => ∃ n : Int, ds = [penF, .int n] ∧ 0 < n ∧ Bd 8999 n ∧ B ≤ 1000000 ∧ ∀ d, 0 ≤ d → d < n → k (.int d) (B + 1)
theorem okD_l_draw (T : Tx K mg) : FnOk P w K mg base (L2.CX P w) 1 T.a_l_draw T.d_l_draw P_l_draw (spD K (pr_l_draw T)) :=
  (ok_l_draw T).imp fun vs H Q E ⟨G, ds, B, k, e, hs, hr, ⟨n, ed, n0, n1, hB, h⟩, hk, hx⟩ => by
    subst ed
    obtain ⟨v, _, rfl, ⟨_, p, c, ns, s, r, rfl, gp, gc, hl, s0, s1⟩, u, _, rfl, ru, rfl⟩ := hr
    rw [show u = _ from ru]
    refine ⟨p, n, B, rfl, n0, lg_lt (n1.mono (by decide)) (by decide), ⟨c, ns, s, r, hs _ _ gp, hs _ _ gc, ⟨hl.2 rfl rfl, hl.1⟩, s0, s1⟩, hB, fun d H' hd bt hp => ?_⟩
    obtain ⟨c1, ns1, s', r', e1, e2, l1, b0, b1⟩ := hp.at_
    obtain ⟨s2, r2, e3⟩ := bt.cl c s r (hs _ _ gp)
    rw [e1] at e3
    have ec : c1 = c := by
      injection e3 with e3
      injection e3 with e3
      exact penD_inj e3
    subst ec
    have npc : c1 ≠ p := ne_of gc gp (by intro z; cases z)
    have nop : ∀ b o, G b = some o → ¬ IsPen o → b ≠ p := fun b o z n q => by
      subst q
      rw [gp] at z
      cases z
      exact n (.inl ⟨_, _, _, _, _, rfl⟩)
    refine hk (.int d) _ (B + 1) (upd G p (.dK (penD c1 s' r'))) H' (h d hd.1 hd.2) ⟨⟨by omega, fun b o z n => by rw [upd_ne (nop b o z n)]; exact z, fun b k l q x y z => ?_, fun hT z hz => ?_⟩, fun b o z => ?_, fun b o z n _ => ?_⟩ rfl
    · by_cases hb : b = p
      · subst hb
        rw [gp] at z
        injection z with z
        injection z with z
        unfold penE at z
        injection z with z1 z2
        injection z2 with z2 z3
        injection z3 with z3 z4
        injection z1 with _ z1
        injection z1 with z1
        injection z2 with z2 z5
        injection z2 with z2
        injection z3 with z3 z6
        injection z3 with z3
        subst z1 z2 z3
        exact ⟨s', r', upd_same, fun _ _ => ⟨b0, b1⟩⟩
      · exact ⟨x, y, by rw [upd_ne hb]; exact z, fun a b => ⟨a, by omega⟩⟩
    · obtain ⟨ps, h1, h2, h3⟩ := hT z hz
      refine ⟨ps, by rw [upd_ne (ne_of h1 gp (by intro z; cases z))]; exact h1, h2, fun pos cv hc => ?_⟩
      obtain ⟨c2, k1, k2⟩ := h3 pos cv hc
      exact ⟨c2, k1, by rw [upd_ne (ne_of k2 gp (by intro z; cases z))]; exact k2⟩
    · by_cases hb : b = p
      · subst hb; rw [upd_same] at z; cases z; exact e1
      · rw [upd_ne hb] at z; exact bt.st b o hb (hs _ _ z)
    · have hb : b ≠ p := fun q => by rw [q, gp] at n; cases n
      exact ⟨bt.st b o hb z, by rw [upd_ne hb]; exact n⟩
theorem bd0 {k : Nat} : Bd k 0 := Nat.pos_of_ne_zero (by have := Nat.one_le_two_pow (n := k); omega)
theorem bdl {n : Int} (h : n.natAbs < 2 ^ 64) : Bd 8999 n := Nat.lt_of_lt_of_le h (Nat.pow_le_pow_right (by decide) (by decide))
def pr_l_pick (T : Tx K mg) : Pr := fun ds B k e => ∃ xs : List D, ds = [penF, .lst xs] ∧ 0 < xs.length ∧ xs.length ≤ 1000000 ∧ B ≤ 1000000 ∧ ∀ d, d ∈ xs → k d (B + 1)
theorem okD_l_pick (T : Tx K mg) : FnOk P w K mg base (L2.CX P w) 2 T.a_l_pick T.d_l_pick P_l_pick (spD K (pr_l_pick T)) := by
  refine T.F_l_pick.okX sc_l_pick (spD_len fun ds B k e h => by obtain ⟨xs, rfl, h0, h1, hB, hk⟩ := h; rfl) (fun cdv A outer s H vs Q E hr h => ?_)
  have G_l_draw : FnOk P w K mg base (L2.CX P w) 1 _ _ _ _ := okD_l_draw T
  obtain ⟨G, ds, B, k, e, hs, hR, ⟨xs, rfl, h0, h1, hB, hk⟩, hK, hX⟩ := h
  refine ⟨_, (pss_one (ps_ret (pe_ix ix_list (pv 1) (pe_call G_l_draw (hr.mono (by decide)) (by rfl) T.g_l_draw T.F_l_draw.kp T.b_l_draw .nil passL (pa_cons (pv 0) (pa_cons (pe_callB call_len_seq (by rfl) T.n_len (by decide +kernel) (pa_cons (pv 1) pa_nil)) pa_nil))) (fun _ _ => rfl)))), run_body (ρ := [some penF, some (.lst xs)]) hs hR hK hX rfl ?_⟩
  refine (ws_ret (we_op (we_var rfl (we_call (wa_cons (we_var rfl (wa_cons (we_lenL (wa_cons (we_var rfl (wa_nil ⟨_, rfl, (wa_nil ⟨_, rfl, by omega, bdl (by omega), hB, fun d d0 d1 => ?_⟩)⟩)))))))))))
  obtain ⟨j, rfl⟩ := Int.eq_ofNat_of_zero_le d0
  have hj : j < xs.length := by omega
  exact ro_ixL (atI_nat (List.getElem?_eq_getElem hj)) (hk _ (List.getElem_mem hj))
def pr_l_ten (T : Tx K mg) : Pr := fun ds B k e => ∃ n : Nat, ds = [.int (n : Nat)] ∧ n ≤ 630 ∧ k (.int ((10 : Int) ^ n)) B
theorem okD_l_ten (T : Tx K mg) : FnOk P w K mg base (L2.CX P w) 1 T.a_l_ten T.d_l_ten P_l_ten (spD K (pr_l_ten T)) := by
  refine T.F_l_ten.okX sc_l_ten (spD_len fun ds B k e h => by obtain ⟨n, rfl, hn, hk⟩ := h; rfl) (fun cdv A outer s H vs Q E hr h => ?_)
  obtain ⟨G, ds, B, k, e, hs, hR, ⟨n, rfl, hn, hk⟩, hK, hX⟩ := h
  refine ⟨_, (pss_one (ps_ret (pe_callTy call_int_str (by rfl) T.n_int (by decide +kernel) (pa_cons (pe_op op_add_str pe_str (pe_op op_mulS pe_str (pv 0))) pa_nil)))), run_body (ρ := [some (.int (n : Nat))]) hs hR hK hX rfl ?_⟩
  obtain ⟨h1, h2, h3⟩ := int_ten hn
  exact ws_ret <| we_intS <| wa_cons <| we_op <| we_str <| we_op <| we_str <| we_var rfl <| ro_mulS (mul_ok (by omega) (by omega) (by decide)) <| ro_addS h3 <| wa_nil ⟨_, _, rfl, h1, h2, hk⟩
theorem ten_bd (n : Nat) : (10 : Int) ^ n = ((10 ^ n : Nat) : Int) ∧ 10 ^ n < 2 ^ (4 * n + 1) := by
  refine ⟨by push_cast; rfl, ?_⟩
  rw [Nat.pow_succ, Nat.pow_mul]
  have h1 : (10 : Nat) ^ n ≤ (2 ^ 4) ^ n := Nat.pow_le_pow_left (by decide) n
  have h2 : 0 < ((2 : Nat) ^ 4) ^ n := Nat.pow_pos (by decide)
  omega
theorem ten_pos (n : Nat) : (0 : Int) < 10 ^ n := Int.pow_pos (by decide)
theorem ten_b {n : Nat} {i : Int} (h0 : i.natAbs ≤ 10 ^ n) {k : Nat} (hk : 4 * n + 1 ≤ k) : Bd k i := Nat.lt_of_le_of_lt h0 (Nat.lt_of_lt_of_le (ten_bd n).2 (Nat.pow_le_pow_right (by decide) hk))
def pr_l_long (T : Tx K mg) : Pr := fun ds B k e => ∃ g : Nat, ds = [penF, .int (g : Nat)] ∧ 1 ≤ g ∧ g ≤ 300 ∧ B ≤ 900000 ∧ ∀ (i : Int) B', 0 ≤ i → i < 10 ^ g → B' ≤ B + 21 → k (.int i) B'
theorem okD_l_long (T : Tx K mg) : FnOk P w K mg base (L2.CX P w) 2 T.a_l_long T.d_l_long P_l_long (spD K (pr_l_long T)) := by
  refine T.F_l_long.okX sc_l_long (spD_len fun ds B k e h => by obtain ⟨g, rfl, g0, g1, hB, hk⟩ := h; rfl) (fun cdv A outer s H vs Q E hr h => ?_)
  have G_l_draw : FnOk P w K mg base (L2.CX P w) 1 _ _ _ _ := okD_l_draw T
  have G_l_ten : FnOk P w K mg base (L2.CX P w) 1 _ _ _ _ := okD_l_ten T
  obtain ⟨G, ds, B, k, e, hs, hR, ⟨g, rfl, g0, g1, hB, hk⟩, hK, hX⟩ := h
  refine ⟨_, (pss_cons (ps_set (i := 2) sc_l_long.nd rfl (.inl rfl) pe_int)
 (pss_cons (ps_for (passes_of rfl) rfl (pi_range1 (by rfl) T.n_range (pa_cons (pe_op op_fdivG (pe_op op_add (pv 1) pe_int) pe_int) pa_nil)) (pg_name (i := 3) sc_l_long.nd rfl (.inl rfl))
 (pss_one (ps_set (i := 2) sc_l_long.nd rfl (.inl rfl) (pe_op op_add (pe_op op_mulW (pv 2) (pe_op op_pow pe_int pe_int)) (pe_call G_l_draw (hr.mono (by decide)) (by rfl) T.g_l_draw T.F_l_draw.kp T.b_l_draw .nil passL (pa_cons (pv 0) (pa_cons (pe_op op_pow pe_int pe_int) pa_nil)))))))
 (pss_one (ps_ret (pe_op op_modN (pe_callTy call_int1 (by rfl) T.n_int (by decide +kernel) (pa_cons (pv 2) pa_nil)) (pe_call G_l_ten (hr.mono (by decide)) (by rfl) T.g_l_ten T.F_l_ten.kp T.b_l_ten .nil passL (pa_cons (pv 1) pa_nil))))))), run_body (ρ := [some penF, some (.int (g : Nat)), none, none]) hs hR hK hX rfl ?_⟩
  refine ws_seq (ws_set (we_int ?_))
  have e15 : (10 : Int) ^ (15 : Int).toNat = 1000000000000000 := by decide
  refine ws_cut (fun ρ' B' => (∃ f o, ρ' = [some penF, some (.int (g : Nat)), some (.int f), o]) ∧ B' ≤ B + 21) ?_ ?_
  · refine ws_for_range1 <| wa_cons <| we_op <| we_op <| we_var rfl <| we_int <| ro_i0 <| we_int <| ro_i ⟨by decide, by decide⟩ <| wa_nil ⟨_, rfl, by rw [Int.fdiv_eq_ediv_of_nonneg _ (by decide)]; omega, by rw [Int.fdiv_eq_ediv_of_nonneg _ (by decide)]; omega, fun i ρ' B' => (∃ f o, ρ' = [some penF, some (.int (g : Nat)), some (.int f), o] ∧ 0 ≤ f ∧ Bd (50 * i) f) ∧ B' ≤ B + i, ⟨⟨_, _, rfl, Int.le_refl _, bd0⟩, by omega⟩, fun i ρ' B' hi hI => ?_, fun ρ' B' hI => ?_⟩
    · obtain ⟨⟨f, o, rfl, f0, bf⟩, hB'⟩ := hI
      rw [Int.fdiv_eq_ediv_of_nonneg _ (by decide)] at hi
      have hi2 : i ≤ 20 := by omega
      refine wg_name ?_
      have bf2 : Bd 1000 f := bf.mono (by omega)
      refine ws_set <| we_op <| we_op <| we_var rfl <| we_op <| we_int <| we_int <| ro_i (show CPow 10 15 from ⟨by decide, by decide, by decide⟩) ?_
      rw [e15]
      refine ro_i (cmc (bf2.mono (by decide)) (show Bd 400000 1000000000000000 from Nat.lt_of_lt_of_le (by decide : _ < 2 ^ 64) (Nat.pow_le_pow_right (by decide) (by decide)))) <| we_call <| wa_cons <| we_var rfl <| wa_cons <| we_op <| we_int <| we_int <| ro_i (show CPow 10 15 from ⟨by decide, by decide, by decide⟩) ?_
      rw [e15]
      refine wa_nil ⟨_, rfl, by decide, bdl (by decide), by omega, fun c c0 c1 => ro_i0 ?_⟩
      refine ⟨⟨_, _, rfl, by omega, ?_⟩, by omega⟩
      unfold Bd at *
      have p : (2 : Nat) ^ (50 * (i + 1)) = 2 ^ (50 * i) * 1125899906842624 := by rw [Nat.mul_add, Nat.pow_add]
      rw [p]
      omega
    · obtain ⟨⟨f, o, rfl, f0, bf⟩, hB'⟩ := hI
      rw [Int.fdiv_eq_ediv_of_nonneg _ (by decide)] at hB'
      exact ⟨⟨_, _, rfl⟩, by omega⟩
  rintro _ B9 ⟨⟨f, o, rfl⟩, hB9⟩
  have tp := ten_pos g
  exact ws_ret <| we_op <| we_intof <| wa_cons <| we_var rfl <| wa_nil ⟨_, rfl, we_call <| wa_cons <| we_var rfl <| wa_nil ⟨g, rfl, by omega, ro_i (show (10 : Int) ^ g ≠ 0 by omega) (hk _ _ (fmod_in tp).1 (fmod_in tp).2 hB9)⟩⟩
theorem ten_mono {m n : Nat} (h : m ≤ n) : (10 : Int) ^ m ≤ 10 ^ n := by
  rw [(ten_bd m).1, (ten_bd n).1]
  exact_mod_cast Nat.pow_le_pow_right (by decide) h
def pr_l_size (T : Tx K mg) : Pr := fun ds B k e => ∃ g : Nat, ds = [penF, .int (g : Nat)] ∧ 2 ≤ g ∧ g ≤ 200 ∧ B ≤ 800000 ∧ ∀ (i : Int) B', 0 ≤ i → i < 10 ^ g → B' ≤ B + 30 → k (.int i) B'
theorem okD_l_size (T : Tx K mg) : FnOk P w K mg base (L2.CX P w) 3 T.a_l_size T.d_l_size P_l_size (spD K (pr_l_size T)) := by
  refine T.F_l_size.okX sc_l_size (spD_len fun ds B k e h => by obtain ⟨g, rfl, g0, g1, hB, hk⟩ := h; rfl) (fun cdv A outer s H vs Q E hr h => ?_)
  have G_l_draw : FnOk P w K mg base (L2.CX P w) 1 _ _ _ _ := okD_l_draw T
  have G_l_long : FnOk P w K mg base (L2.CX P w) 2 _ _ _ _ := okD_l_long T
  have G_l_ten : FnOk P w K mg base (L2.CX P w) 1 _ _ _ _ := okD_l_ten T
  obtain ⟨G, ds, B, k, e, hs, hR, ⟨g, rfl, g0, g1, hB, hk⟩, hK, hX⟩ := h
  refine ⟨_, (pss_cons (ps_set (i := 2) sc_l_size.nd rfl (.inl rfl) (pe_call G_l_draw (hr.mono (by decide)) (by rfl) T.g_l_draw T.F_l_draw.kp T.b_l_draw .nil passL (pa_cons (pv 0) (pa_cons pe_int pa_nil))))
 (pss_cons (ps_if (pt_cmpR op_lt (pv 2) pe_int (nomark _))
 (pss_one (ps_ret (pe_call G_l_draw (hr.mono (by decide)) (by rfl) T.g_l_draw T.F_l_draw.kp T.b_l_draw .nil passL (pa_cons (pv 0) (pa_cons (pe_ix ix_list (pe_lst (pa_cons pe_int (pa_cons pe_int (pa_cons pe_int pa_nil)))) (pv 2) (fun _ _ => rfl)) pa_nil)))))
 pss_nil)
 (pss_cons (ps_if (pt_cmpR op_eq (pv 2) pe_int (nomark _))
 (pss_one (ps_ret (pe_call G_l_long (hr.mono (by decide)) (by rfl) T.g_l_long T.F_l_long.kp T.b_l_long .nil passL (pa_cons (pv 0) (pa_cons (pe_op op_add pe_int (pe_call G_l_draw (hr.mono (by decide)) (by rfl) T.g_l_draw T.F_l_draw.kp T.b_l_draw .nil passL (pa_cons (pv 0) (pa_cons (pv 1) pa_nil)))) pa_nil)))))
 pss_nil)
 (pss_cons (ps_if (pt_cmpR op_eq (pv 2) pe_int (nomark _))
 (pss_one (ps_ret (pe_call G_l_long (hr.mono (by decide)) (by rfl) T.g_l_long T.F_l_long.kp T.b_l_long .nil passL (pa_cons (pv 0) (pa_cons (pv 1) pa_nil)))))
 pss_nil)
 (pss_one (ps_ret (pe_callB (call_max2 rfl) (by rfl) T.n_max (by decide +kernel) (pa_cons pe_int (pa_cons (pe_op op_sub (pe_op op_sub (pe_call G_l_ten (hr.mono (by decide)) (by rfl) T.g_l_ten T.F_l_ten.kp T.b_l_ten .nil passL (pa_cons (pe_op op_add pe_int (pe_call G_l_draw (hr.mono (by decide)) (by rfl) T.g_l_draw T.F_l_draw.kp T.b_l_draw .nil passL (pa_cons (pv 0) (pa_cons (pv 1) pa_nil)))) pa_nil)) (pe_call G_l_draw (hr.mono (by decide)) (by rfl) T.g_l_draw T.F_l_draw.kp T.b_l_draw .nil passL (pa_cons (pv 0) (pa_cons pe_int pa_nil)))) pe_int) pa_nil))))))))), run_body (ρ := [some penF, some (.int (g : Nat)), none]) hs hR hK hX rfl ?_⟩
  have t2 := ten_mono g0
  have t2' : (10 : Int) ^ 2 = 100 := by decide
  have fin : ∀ (i : Int) B', 0 ≤ i → i < 10 ^ g → B' ≤ B + 30 → k (.int i) B' := hk
  refine ws_seq <| ws_set <| we_call <| wa_cons <| we_var rfl <| wa_cons <| we_int <| wa_nil ⟨_, rfl, by decide, bdl (by decide), by omega, fun s s0 s1 => ?_⟩
  refine ws_seq <| ws_if <| wt_test <| we_op <| we_var rfl <| we_int <| ro_b0 ⟨_, rfl, fun h => ?_, fun h => ws_next ?_⟩
  · have h := of_decide_eq_true h
    have ha : ∃ z : Int, atI [D.int 5, .int 13, .int 90] s = some (.int z) ∧ 0 < z ∧ z < 100 := by
      have : s = 0 ∨ s = 1 ∨ s = 2 := by omega
      rcases this with rfl | rfl | rfl
      · exact ⟨5, rfl, by decide, by decide⟩
      · exact ⟨13, rfl, by decide, by decide⟩
      · exact ⟨90, rfl, by decide, by decide⟩
    obtain ⟨z, hz, z0, z1⟩ := ha
    exact ws_ret <| we_call <| wa_cons <| we_var rfl <| wa_cons <| we_op <| we_lst <| wa_cons <| we_int <| wa_cons <| we_int <| wa_cons <| we_int <| wa_nil ⟨Nat.le_of_ble_eq_true rfl, we_var rfl <| ro_ixL hz <| wa_nil ⟨_, rfl, z0, bdl (by omega), by omega, fun d d0 d1 => hk d _ d0 (by omega) (by omega)⟩⟩
  refine ws_seq <| ws_if <| wt_test <| we_op <| we_var rfl <| we_int <| ro_eqI ⟨_, rfl, fun h => ?_, fun h => ws_next ?_⟩
  · refine ws_ret <| we_call <| wa_cons <| we_var rfl <| wa_cons <| we_op <| we_int <| we_call <| wa_cons <| we_var rfl <| wa_cons <| we_var rfl <| wa_nil ⟨_, rfl, by omega, bdl (by omega), by omega, fun d d0 d1 => ro_i0 <| wa_nil ?_⟩
    obtain ⟨j, rfl⟩ := Int.eq_ofNat_of_zero_le d0
    have tm := ten_mono (show 1 + j ≤ g by omega)
    exact ⟨1 + j, by rw [Int.natCast_add]; rfl, by omega, by omega, by omega, fun i B' i0 i1 hB' => hk i B' i0 (by omega) (by omega)⟩
  refine ws_seq <| ws_if <| wt_test <| we_op <| we_var rfl <| we_int <| ro_eqI ⟨_, rfl, fun h => ?_, fun h => ws_next ?_⟩
  · exact ws_ret <| we_call <| wa_cons <| we_var rfl <| wa_cons <| we_var rfl <| wa_nil ⟨g, rfl, by omega, by omega, by omega, fun i B' i0 i1 hB' => hk i B' i0 i1 (by omega)⟩
  refine ws_ret <| we_max2 <| wa_cons <| we_int <| wa_cons <| we_op <| we_op <| we_call <| wa_cons <| we_op <| we_int <| we_call <| wa_cons <| we_var rfl <| wa_cons <| we_var rfl <| wa_nil ⟨_, rfl, by omega, bdl (by omega), by omega, fun d d0 d1 => ro_i0 <| wa_nil ?_⟩
  obtain ⟨j, rfl⟩ := Int.eq_ofNat_of_zero_le d0
  have tm := ten_mono (show 1 + j ≤ g by omega)
  refine ⟨1 + j, by rw [Int.natCast_add]; rfl, by omega, we_call <| wa_cons <| we_var rfl <| wa_cons <| we_int <| wa_nil ⟨_, rfl, by decide, bdl (by decide), by omega, fun c c0 c1 => ro_i0 <| we_int <| ro_i0 <| wa_nil ⟨_, _, rfl, hk _ _ ?_ ?_ (by omega)⟩⟩⟩
  · split <;> omega
  · split <;> omega
def pr_l_number (T : Tx K mg) : Pr := fun ds B k e => ∃ g : Nat, ds = [penF, .int (g : Nat)] ∧ 2 ≤ g ∧ g ≤ 200 ∧ B ≤ 800000 ∧ ∀ (i : Int) B', i.natAbs < 10 ^ g → B' ≤ B + 31 → k (.int i) B'
theorem okD_l_number (T : Tx K mg) : FnOk P w K mg base (L2.CX P w) 4 T.a_l_number T.d_l_number P_l_number (spD K (pr_l_number T)) := by
  refine T.F_l_number.okX sc_l_number (spD_len fun ds B k e h => by obtain ⟨g, rfl, g0, g1, hB, hk⟩ := h; rfl) (fun cdv A outer s H vs Q E hr h => ?_)
  have G_l_draw : FnOk P w K mg base (L2.CX P w) 1 _ _ _ _ := okD_l_draw T
  have G_l_size : FnOk P w K mg base (L2.CX P w) 3 _ _ _ _ := okD_l_size T
  obtain ⟨G, ds, B, k, e, hs, hR, ⟨g, rfl, g0, g1, hB, hk⟩, hK, hX⟩ := h
  refine ⟨_, (pss_cons (ps_set (i := 2) sc_l_number.nd rfl (.inl rfl) (pe_call G_l_size (hr.mono (by decide)) (by rfl) T.g_l_size T.F_l_size.kp T.b_l_size .nil passL (pa_cons (pv 0) (pa_cons (pv 1) pa_nil))))
 (pss_one (ps_ret (pe_ifExp (pt_truI (pe_call G_l_draw (hr.mono (by decide)) (by rfl) T.g_l_draw T.F_l_draw.kp T.b_l_draw .nil passL (pa_cons (pv 0) (pa_cons pe_int pa_nil)))) (pe_un un_neg (pv 2)) (pv 2))))), run_body (ρ := [some penF, some (.int (g : Nat)), none]) hs hR hK hX rfl ?_⟩
  refine ws_seq <| ws_set <| we_call <| wa_cons <| we_var rfl <| wa_cons <| we_var rfl <| wa_nil ⟨g, rfl, g0, g1, hB, fun i B' i0 i1 hB' => ?_⟩
  rw [(ten_bd g).1] at i1
  exact ws_ret <| we_ifE <| wt_truI <| we_call <| wa_cons <| we_var rfl <| wa_cons <| we_int <| wa_nil ⟨_, rfl, by decide, bdl (by decide), by omega, fun d d0 d1 => ⟨_, rfl, (fun h => we_neg <| we_var rfl ⟨_, rfl, hk _ _ (by omega) (by omega)⟩), fun h => we_var rfl <| hk _ _ (by omega) (by omega)⟩⟩
end
end AW

set_option linter.all false
set_option maxRecDepth 100000
set_option maxHeartbeats 8000000
namespace AW
open PySem PySem.Spec PyProof.Rows L2 LamX Tbl
variable [Tbs]
section
variable {P : Program} {w : World} {K : PySem.W.Frag} {mg : Str → Option Value} {base : Heap}
abbrev tpD (p : P3) : D := .tup [.int p.1, .int p.2.1, .int p.2.2]
theorem ix {E : XK} {e : EW} {B : Int} {i : Nat} {n : Int} {d : D} {r : P3} {k' : KD} {ρ : List (Option D)} (h1 : ρ[i]? = some (some (tpD r))) (h2 : atI [D.int r.1, .int r.2.1, .int r.2.2] n = some d) (h3 : k' d B) : We K E e (tOp (rIxT K) (tVar i) (tC (.int n))) ρ B k' := we_op <| we_var h1 <| we_int <| ro_ixT h2 h3
def pr_l_whole_is (T : Tx K mg) : Pr := fun ds B k e => ∃ a b : Int, ds = [.int a, .int b] ∧ k (.bl (decide (a = b))) B
theorem okD_l_whole_is (T : Tx K mg) : FnOk P w K mg base (L2.CX P w) 1 T.a_l_whole_is T.d_l_whole_is P_l_whole_is (spD K (pr_l_whole_is T)) := by
  refine T.F_l_whole_is.okX sc_l_whole_is (spD_len fun ds B k e h => by obtain ⟨a, b, rfl, hk⟩ := h; rfl) (fun cdv A outer s H vs Q E hr h => ?_)
  obtain ⟨G, ds, B, k, e, hs, hR, ⟨a, b, rfl, hk⟩, hK, hX⟩ := h
  refine ⟨_, (pss_one (ps_ret (pe_and (pe_callB call_isi (by rfl) T.n_isinstance (by decide +kernel) (pa_cons (pv 0) (pa_cons (pe_bltn (v := .ty "int") (by rfl) T.n_int (by decide +kernel) rfl) pa_nil))) (pe_and (pe_not (pe_callB call_isi (by rfl) T.n_isinstance (by decide +kernel) (pa_cons (pv 0) (pa_cons (pe_bltn (v := .ty "bool") (by rfl) T.n_bool (by decide +kernel) rfl) pa_nil)))) (pe_one (pe_cmpR op_eq (pv 0) (pv 1) (nomark _))))))), run_body (ρ := [some (.int a), some (.int b)]) hs hR hK hX rfl ?_⟩
  exact ws_ret <| we_and <| we_isi_int T <| wa_cons <| we_var rfl <| wa_cons <| we_val <| wa_nil ⟨_, rfl, rfl, _, rfl, (fun _ => we_and <| we_not <| we_isi_bool T <| wa_cons <| we_var rfl <| wa_cons <| we_val <| wa_nil ⟨_, rfl, rfl, _, rfl, _, rfl, (fun _ => we_op <| we_var rfl <| we_var rfl <| ro_eqI hk), (fun h => nomatch h)⟩), (fun h => nomatch h)⟩
def pr_l_truth (T : Tx K mg) : Pr := fun ds B k e => ∃ a b : Bool, ds = [.bl a, .bl b] ∧ k (.bl (decide (a = b))) B
theorem okD_l_truth (T : Tx K mg) : FnOk P w K mg base (L2.CX P w) 1 T.a_l_truth T.d_l_truth P_l_truth (spD K (pr_l_truth T)) := by
  refine T.F_l_truth.okX sc_l_truth (spD_len fun ds B k e h => by obtain ⟨a, b, rfl, hk⟩ := h; rfl) (fun cdv A outer s H vs Q E hr h => ?_)
  obtain ⟨G, ds, B, k, e, hs, hR, ⟨a, b, rfl, hk⟩, hK, hX⟩ := h
  refine ⟨_, (pss_one (ps_ret (pe_ifExp (pt_val (pv 1)) (pe_cmpR op_isBl (pv 0) pe_bl (nomark _)) (pe_cmpR op_isBl (pv 0) pe_bl (nomark _))))), run_body (ρ := [some (.bl a), some (.bl b)]) hs hR hK hX rfl ?_⟩
  refine ws_ret <| we_ifE <| wt_val <| we_var rfl ⟨_, rfl, fun h => we_op <| we_var rfl <| we_bl <| ro_isB ?_, fun h => we_op <| we_var rfl <| we_bl <| ro_isB ?_⟩
  · rw [← h]; exact hk
  · rw [← h]; exact hk
def pr_l_mul (T : Tx K mg) : Pr := fun ds B k e => ∃ p q : P3, ds = [tpD p, tpD q] ∧ CMulW p.1 q.2.1 ∧ k (tpD (mu p q)) B
theorem okD_l_mul (T : Tx K mg) : FnOk P w K mg base (L2.CX P w) 1 T.a_l_mul T.d_l_mul P_l_mul (spD K (pr_l_mul T)) := by
  refine T.F_l_mul.okX sc_l_mul (spD_len fun ds B k e h => by obtain ⟨p, q, rfl, c, hk⟩ := h; rfl) (fun cdv A outer s H vs Q E hr h => ?_)
  obtain ⟨G, ds, B, k, e, hs, hR, ⟨p, q, rfl, c, hk⟩, hK, hX⟩ := h
  refine ⟨_, (pss_one (ps_ret (pe_tup (pa_cons (pe_op op_add (pe_ix ix_tup (pv 0) pe_int (fun _ _ => rfl)) (pe_ix ix_tup (pv 1) pe_int (fun _ _ => rfl))) (pa_cons (pe_op op_add (pe_ix ix_tup (pv 0) pe_int (fun _ _ => rfl)) (pe_ix ix_tup (pv 1) pe_int (fun _ _ => rfl))) (pa_cons (pe_op op_add (pe_op op_add (pe_ix ix_tup (pv 0) pe_int (fun _ _ => rfl)) (pe_ix ix_tup (pv 1) pe_int (fun _ _ => rfl))) (pe_op op_mulW (pe_ix ix_tup (pv 0) pe_int (fun _ _ => rfl)) (pe_ix ix_tup (pv 1) pe_int (fun _ _ => rfl)))) pa_nil)))))), run_body (ρ := [some (tpD p), some (tpD q)]) hs hR hK hX rfl ?_⟩
  exact ws_ret <| we_tup <| wa_cons <| we_op <| ix rfl rfl <| ix rfl rfl <| ro_i0 <| wa_cons <| we_op <| ix rfl rfl <| ix rfl rfl <| ro_i0 <| wa_cons <| we_op <| we_op <| ix rfl rfl <| ix rfl rfl <| ro_i0 <| we_op <| ix rfl rfl <| ix rfl rfl <| ro_i c <| ro_i0 <| wa_nil ⟨Nat.le_of_ble_eq_true rfl, hk⟩
def pr_l_undo (T : Tx K mg) : Pr := fun ds B k e => ∃ p : P3, ds = [tpD p] ∧ CMulW p.1 p.2.1 ∧ k (tpD (iv p)) B
theorem okD_l_undo (T : Tx K mg) : FnOk P w K mg base (L2.CX P w) 1 T.a_l_undo T.d_l_undo P_l_undo (spD K (pr_l_undo T)) := by
  refine T.F_l_undo.okX sc_l_undo (spD_len fun ds B k e h => by obtain ⟨p, rfl, c, hk⟩ := h; rfl) (fun cdv A outer s H vs Q E hr h => ?_)
  obtain ⟨G, ds, B, k, e, hs, hR, ⟨p, rfl, c, hk⟩, hK, hX⟩ := h
  refine ⟨_, (pss_one (ps_ret (pe_tup (pa_cons (pe_un un_neg (pe_ix ix_tup (pv 0) pe_int (fun _ _ => rfl))) (pa_cons (pe_un un_neg (pe_ix ix_tup (pv 0) pe_int (fun _ _ => rfl))) (pa_cons (pe_op op_sub (pe_op op_mulW (pe_ix ix_tup (pv 0) pe_int (fun _ _ => rfl)) (pe_ix ix_tup (pv 0) pe_int (fun _ _ => rfl))) (pe_ix ix_tup (pv 0) pe_int (fun _ _ => rfl))) pa_nil)))))), run_body (ρ := [some (tpD p)]) hs hR hK hX rfl ?_⟩
  exact ws_ret <| we_tup <| wa_cons <| we_neg <| ix rfl rfl ⟨_, rfl, wa_cons <| we_neg <| ix rfl rfl ⟨_, rfl, wa_cons <| we_op <| we_op <| ix rfl rfl <| ix rfl rfl <| ro_i c <| ix rfl rfl <| ro_i0 <| wa_nil ⟨Nat.le_of_ble_eq_true rfl, hk⟩⟩⟩
def pr_l_pow (T : Tx K mg) : Pr := fun ds B k e => ∃ (p : P3) (n : Int), ds = [tpD p, .int n] ∧ SzP 60000 p ∧ Bd 60000 n ∧ k (tpD (pw p n)) B
theorem okD_l_pow (T : Tx K mg) : FnOk P w K mg base (L2.CX P w) 1 T.a_l_pow T.d_l_pow P_l_pow (spD K (pr_l_pow T)) := by
  refine T.F_l_pow.okX sc_l_pow (spD_len fun ds B k e h => by obtain ⟨p, n, rfl, ⟨h1, h2, h3⟩, hn, hk⟩ := h; rfl) (fun cdv A outer s H vs Q E hr h => ?_)
  obtain ⟨G, ds, B, k, e, hs, hR, ⟨p, n, rfl, ⟨h1, h2, h3⟩, hn, hk⟩, hK, hX⟩ := h
  refine ⟨_, (pss_one (ps_ret (pe_tup (pa_cons (pe_op op_mulW (pv 1) (pe_ix ix_tup (pv 0) pe_int (fun _ _ => rfl))) (pa_cons (pe_op op_mulW (pv 1) (pe_ix ix_tup (pv 0) pe_int (fun _ _ => rfl))) (pa_cons (pe_op op_add (pe_op op_mulW (pv 1) (pe_ix ix_tup (pv 0) pe_int (fun _ _ => rfl))) (pe_op op_mulW (pe_op op_mulW (pe_op op_fdivG (pe_op op_mulW (pv 1) (pe_op op_sub (pv 1) pe_int)) pe_int) (pe_ix ix_tup (pv 0) pe_int (fun _ _ => rfl))) (pe_ix ix_tup (pv 0) pe_int (fun _ _ => rfl)))) pa_nil)))))), run_body (ρ := [some (tpD p), some (.int n)]) hs hR hK hX rfl ?_⟩
  have b1 : Bd 120001 (n * (n - 1)) := (Bd.mul hn (Bd.sub hn (show Bd 60000 1 from Nat.one_lt_two_pow (by decide)))).mono (by decide)
  have b2 : Bd 120001 ((n * (n - 1)).fdiv 2) := Bd.fdiv b1
  have b3 : Bd 180001 ((n * (n - 1)).fdiv 2 * p.1) := (Bd.mul b2 h1).mono (by decide)
  have e : pw p n = (n * p.1, n * p.2.1, n * p.2.2 + (n * (n - 1)).fdiv 2 * p.1 * p.2.1) := by
    refine p3_ext rfl rfl ?_
    show n * p.2.2 + p.1 * p.2.1 * tr n = n * p.2.2 + (n * (n - 1)).fdiv 2 * p.1 * p.2.1
    rw [fdiv2]
    unfold tr
    grind
  rw [e] at hk
  exact ws_ret <| we_tup <| wa_cons <| we_op <| we_var rfl <| ix rfl rfl <| ro_i (cmc (hn.mono (by decide)) (h1.mono (by decide))) <| wa_cons <| we_op <| we_var rfl <| ix rfl rfl <| ro_i (cmc (hn.mono (by decide)) (h2.mono (by decide))) <| wa_cons <| we_op <| we_op <| we_var rfl <| ix rfl rfl <| ro_i (cmc (hn.mono (by decide)) (h3.mono (by decide))) <| we_op <| we_op <| we_op <| we_op <| we_var rfl <| we_op <| we_var rfl <| we_int <| ro_i0 <| ro_i (cmc (hn.mono (by decide)) (Bd.mono (Bd.sub hn (show Bd 60000 1 from Nat.one_lt_two_pow (by decide))) (by decide))) <| we_int <| ro_i ⟨by decide, by decide⟩ <| ix rfl rfl <| ro_i (cmc (b2.mono (by decide)) (h1.mono (by decide))) <| ix rfl rfl <| ro_i (cmc (b3.mono (by decide)) (h2.mono (by decide))) <| ro_i0 <| wa_nil ⟨Nat.le_of_ble_eq_true rfl, hk⟩
def prodF (L : List P3) : P3 := L.foldl mu e0
def pr_l_prod (T : Tx K mg) : Pr := fun ds B k e => ∃ L : List P3, ds = [.lst (L.map tpD)] ∧ L.length ≤ 2 ∧ (∀ p ∈ L, SzP 90000 p) ∧ k (tpD (prodF L)) B
theorem SzP.e0 {k : Nat} : SzP k e0 := ⟨Nat.one_le_two_pow, Nat.one_le_two_pow, Nat.one_le_two_pow⟩
theorem okD_l_prod (T : Tx K mg) : FnOk P w K mg base (L2.CX P w) 2 T.a_l_prod T.d_l_prod P_l_prod (spD K (pr_l_prod T)) := by
  refine T.F_l_prod.okX sc_l_prod (spD_len fun ds B k e h => by obtain ⟨L, rfl, hl, hsz, hk⟩ := h; rfl) (fun cdv A outer s H vs Q E hr h => ?_)
  have G_l_mul : FnOk P w K mg base (L2.CX P w) 1 _ _ _ _ := okD_l_mul T
  obtain ⟨G, ds, B, k, e, hs, hR, ⟨L, rfl, hl, hsz, hk⟩, hK, hX⟩ := h
  refine ⟨_, (pss_cons (ps_set (i := 1) sc_l_prod.nd rfl (.inl rfl) (pe_tup (pa_cons pe_int (pa_cons pe_int (pa_cons pe_int pa_nil)))))
 (pss_cons (ps_for (passes_of rfl) rfl (pi_list (pv 0)) (pg_name (i := 2) sc_l_prod.nd rfl (.inl rfl))
 (pss_one (ps_set (i := 1) sc_l_prod.nd rfl (.inl rfl) (pe_call G_l_mul (hr.mono (by decide)) (by rfl) T.g_l_mul T.F_l_mul.kp T.b_l_mul .nil passL (pa_cons (pv 1) (pa_cons (pv 2) pa_nil))))))
 (pss_one (ps_ret (pv 1))))), run_body (ρ := [some (.lst (L.map tpD)), none, none]) hs hR hK hX rfl ?_⟩
  refine ws_seq <| ws_set <| we_tup <| wa_cons <| we_int <| wa_cons <| we_int <| wa_cons <| we_int <| wa_nil ⟨Nat.le_of_ble_eq_true rfl, ?_⟩
  refine ws_cut (fun ρ' B' => (∃ o, ρ' = [some (.lst (L.map tpD)), some (tpD (prodF L)), o]) ∧ B = B') ?_ ?_
  · refine ws_for_list <| we_var rfl ⟨_, rfl, fun i ρ' B' => (∃ o, ρ' = [some (.lst (L.map tpD)), some (tpD (prodF (L.take i))), o] ∧ SzP (90002 * 2 ^ i - 2) (prodF (L.take i))) ∧ B = B', ⟨⟨none, rfl, SzP.e0⟩, rfl⟩, fun i x ρ' B' hi hI => ?_, fun ρ' B' hI => ?_⟩
    · obtain ⟨⟨o, rfl, hz⟩, rfl⟩ := hI
      obtain ⟨p, hp, rfl⟩ := at_map hi
      have hi2 := (List.getElem?_eq_some_iff.mp hp).1
      have sp := hsz p (List.mem_of_getElem? hp)
      have hpw : 2 ^ i ≤ 2 := by have : i = 0 ∨ i = 1 := by omega
                                 rcases this with rfl | rfl <;> decide
      have hpw1 : 1 ≤ 2 ^ i := Nat.one_le_two_pow
      have e1 : prodF (L.take (i + 1)) = mu (prodF (L.take i)) p := by unfold prodF; rw [List.take_add_one, hp, List.foldl_append]; rfl
      refine wg_name <| ws_set <| we_call <| wa_cons <| we_var rfl <| wa_cons <| we_var rfl <| wa_nil ⟨_, _, rfl, cmc (hz.1.mono (show 90002 * 2 ^ i - 2 ≤ 400000 by omega)) (sp.2.1.mono (by decide)), ⟨_, by rw [e1]; rfl, ?_⟩, rfl⟩
      rw [e1]
      exact (hz.mu (sp.mono (by omega))).mono (by rw [Nat.pow_succ]; omega)
    · obtain ⟨⟨o, rfl, hz⟩, rfl⟩ := hI
      rw [List.length_map, List.take_length]
      exact ⟨⟨o, rfl⟩, rfl⟩
  rintro _ _ ⟨⟨o, rfl⟩, rfl⟩
  exact ws_ret <| we_var rfl hk
def pr_l_place (T : Tx K mg) : Pr := fun ds B k e => ∃ p : P3, ds = [tpD p] ∧ k (plp T p) B
theorem okD_l_place (T : Tx K mg) : FnOk P w K mg base (L2.CX P w) 6 T.a_l_place T.d_l_place P_l_place (spD K (pr_l_place T)) := by
  refine T.F_l_place.okX sc_l_place (spD_len fun ds B k e h => by obtain ⟨p, rfl, hk⟩ := h; rfl) (fun cdv A outer s H vs Q E hr h => ?_)
  have G_Place_init : FnOk P w K mg base (L2.CX P w) _ _ _ _ _ := okD_Place_init T
  obtain ⟨G, ds, B, k, e, hs, hR, ⟨p, rfl, hk⟩, hK, hX⟩ := h
  refine ⟨_, (pss_one (ps_ret (pe_make T.M_Place G_Place_init (hr.mono (by decide)) (by rfl) T.g_C_Place T.b_Place_init .nil passL (pa_cons (pe_ix ix_tup (pv 0) pe_int (fun _ _ => rfl)) (pa_cons (pe_ix ix_tup (pv 0) pe_int (fun _ _ => rfl)) (pa_cons (pe_ix ix_tup (pv 0) pe_int (fun _ _ => rfl)) pa_nil)))))), run_body (ρ := [some (tpD p)]) hs hR hK hX rfl ?_⟩
  exact ws_ret <| we_place T <| wa_cons <| ix rfl rfl <| wa_cons <| ix rfl rfl <| wa_cons <| ix rfl rfl <| wa_nil ⟨_, _, _, rfl, hk⟩
def pr_l_row (T : Tx K mg) : Pr := fun ds B k e => ∃ p : P3, ds = [plp T p] ∧ k (tpD p) B
theorem okD_l_row (T : Tx K mg) : FnOk P w K mg base (L2.CX P w) 1 T.a_l_row T.d_l_row P_l_row (spD K (pr_l_row T)) := by
  refine T.F_l_row.okX sc_l_row (spD_len fun ds B k e h => by obtain ⟨p, rfl, hk⟩ := h; rfl) (fun cdv A outer s H vs Q E hr h => ?_)
  obtain ⟨G, ds, B, k, e, hs, hR, ⟨p, rfl, hk⟩, hK, hX⟩ := h
  refine ⟨_, (pss_one (ps_ret (pe_tup (pa_cons (pe_fld (pv 0) rfl) (pa_cons (pe_fld (pv 0) rfl) (pa_cons (pe_fld (pv 0) rfl) pa_nil)))))), run_body (ρ := [some (plp T p)]) hs hR hK hX rfl ?_⟩
  exact ws_ret <| we_tup <| wa_cons <| we_fx T <| we_var rfl ⟨_, _, _, rfl, wa_cons <| we_fy T <| we_var rfl ⟨_, _, _, rfl, wa_cons <| we_fa T <| we_var rfl ⟨_, _, _, rfl, wa_nil ⟨Nat.le_of_ble_eq_true rfl, hk⟩⟩⟩⟩
end
end AW

set_option linter.all false
set_option maxRecDepth 100000
set_option maxHeartbeats 8000000
namespace AW
open PySem PySem.Spec PyProof.Rows L2 LamX Tbl
variable [Tbs]
section
variable {P : Program} {w : World} {K : PySem.W.Frag} {mg : Str → Option Value} {base : Heap}
def madeF (L : List P3) (ns : List Int) (h n : Int) : P3 := ((prodF (List.zipWith pw L ns)).1, (prodF (List.zipWith pw L ns)).2.1, (prodF (List.zipWith pw L ns)).2.2 + h * n)
theorem SzP.pw {k m : Nat} {p : P3} {n : Int} (h : SzP k p) (hn : Bd m n) (hm : 1 ≤ m) : SzP (2 * k + 2 * m + 2) (pw p n) := by
  refine ⟨(Bd.mul hn h.1).mono (by omega), (Bd.mul hn h.2.1).mono (by omega), ?_⟩
  have e : Tbl.pw p n = (n * p.1, n * p.2.1, n * p.2.2 + (n * (n - 1)).fdiv 2 * p.1 * p.2.1) := by
    refine p3_ext rfl rfl ?_
    show n * p.2.2 + p.1 * p.2.1 * tr n = n * p.2.2 + (n * (n - 1)).fdiv 2 * p.1 * p.2.1
    rw [fdiv2]
    unfold tr
    grind
  rw [e]
  have b1 : Bd (2 * m + 1) ((n * (n - 1)).fdiv 2) := Bd.fdiv ((Bd.mul hn (Bd.sub hn (show Bd m 1 from Nat.one_lt_two_pow (by omega)))).mono (by omega))
  exact Bd.add ((Bd.mul hn h.2.2).mono (show m + k ≤ 2 * k + 2 * m + 1 by omega)) ((Bd.mul (Bd.mul b1 h.1) h.2.1).mono (by omega))
def pr_l_made (T : Tx K mg) : Pr := fun ds B k e => ∃ (L : List P3) (h : Int) (g : Nat), ds = [penF, .lst (L.map tpD), .int h, .int (g : Nat)] ∧ L.length ≤ 2 ∧ (∀ p ∈ L, SzP 29000 p) ∧ Bd 20000 h ∧ 2 ≤ g ∧ g ≤ 100 ∧ B ≤ 700000 ∧ ∀ (ns : List Int) (n : Int) B', ns.length = L.length → (∀ m ∈ ns, m.natAbs < 10 ^ g) → n.natAbs < 10 ^ g → B' ≤ B + 100 → k (tpD (madeF L ns h n)) B'
theorem okD_l_made (T : Tx K mg) : FnOk P w K mg base (L2.CX P w) 5 T.a_l_made T.d_l_made P_l_made (spD K (pr_l_made T)) := by
  refine T.F_l_made.okX sc_l_made (spD_len fun ds B k e h => by obtain ⟨L, h, g, rfl, hl, hsz, bh, g0, g1, hB, hk⟩ := h; rfl) (fun cdv A outer s H vs Q E hr h => ?_)
  have G_l_number : FnOk P w K mg base (L2.CX P w) 4 _ _ _ _ := okD_l_number T
  have G_l_pow : FnOk P w K mg base (L2.CX P w) 1 _ _ _ _ := okD_l_pow T
  have G_l_prod : FnOk P w K mg base (L2.CX P w) 2 _ _ _ _ := okD_l_prod T
  obtain ⟨G, ds, B, k, e, hs, hR, ⟨L, h, g, rfl, hl, hsz, bh, g0, g1, hB, hk⟩, hK, hX⟩ := h
  refine ⟨_, (pss_cons (ps_set (i := 4) sc_l_made.nd rfl (.inl rfl) (pe_call G_l_prod (hr.mono (by decide)) (by rfl) T.g_l_prod T.F_l_prod.kp T.b_l_prod .nil passL (pa_cons (pe_lc (te := (tCall (spD K (pr_l_pow T)) [] E0 (tCons (tVar 5) (tCons (tCall (spD K (pr_l_number T)) [] E0 (tCons (tVar 0) (tCons (tVar 3) tNil))) tNil)))) (own := [("_law_row_here", 5)]) (g := gName 5) (by rfl) sc_l_made.nd (pi_list (pv 1)) (blkOk_by (own := [("_law_row_here", 5)]) (N := N_l_made) (sc := defScope s_l_made) (by decide +kernel)) (fun _ _ _ _ _ => pg_name (i := 5) sc_l_made.nd rfl (Or.inl rfl)) (fun _ _ _ _ _ => pts_nil) (fun _ _ _ _ _ => (pe_call G_l_pow (hr.mono (by decide)) (by rfl) T.g_l_pow T.F_l_pow.kp T.b_l_pow .nil passL (pa_cons (pv 5) (pa_cons (pe_call G_l_number (hr.mono (by decide)) (by rfl) T.g_l_number T.F_l_number.kp T.b_l_number .nil passL (pa_cons (pv 0) (pa_cons (pv 3) pa_nil))) pa_nil))))) pa_nil)))
 (pss_one (ps_ret (pe_tup (pa_cons (pe_ix ix_tup (pv 4) pe_int (fun _ _ => rfl)) (pa_cons (pe_ix ix_tup (pv 4) pe_int (fun _ _ => rfl)) (pa_cons (pe_op op_add (pe_ix ix_tup (pv 4) pe_int (fun _ _ => rfl)) (pe_op op_mulW (pv 2) (pe_call G_l_number (hr.mono (by decide)) (by rfl) T.g_l_number T.F_l_number.kp T.b_l_number .nil passL (pa_cons (pv 0) (pa_cons (pv 3) pa_nil))))) pa_nil))))))), run_body (ρ := [some penF, some (.lst (L.map tpD)), some (.int h), some (.int (g : Nat)), none, none]) hs hR hK hX rfl ?_⟩
  have zL : 1000 < sizeLine := by decide
  refine ws_cut (fun ρ' B' => (∃ ns : List Int, ρ' = [some penF, some (.lst (L.map tpD)), some (.int h), some (.int (g : Nat)), some (tpD (prodF (List.zipWith pw L ns))), none] ∧ ns.length = L.length ∧ (∀ m ∈ ns, m.natAbs < 10 ^ g)) ∧ B' ≤ B + 62) ?_ ?_
  · refine ws_set <| we_call <| wa_cons <| we_lc_list (E1 := E0) <| we_var rfl ⟨_, rfl, by rw [List.length_map]; omega, fun i out B' => (∃ ns : List Int, out = (List.zipWith pw (L.take i) ns).map tpD ∧ ns.length = i ∧ (∀ m ∈ ns, m.natAbs < 10 ^ g)) ∧ i ≤ L.length ∧ B' ≤ B + 31 * i, ⟨⟨[], rfl, rfl, fun m hm => nomatch hm⟩, Nat.zero_le _, by omega⟩, fun i x out B' hi hI => ?_, fun out B' _ hI => ?_⟩
    · obtain ⟨⟨ns, rfl, hn, hns⟩, hiL, hB'⟩ := hI
      obtain ⟨p, hp, rfl⟩ := at_map hi
      have hi2 := (List.getElem?_eq_some_iff.mp hp).1
      have sp := hsz p (List.mem_of_getElem? hp)
      refine wt_yes ⟨fun _ => we_call <| wa_cons <| we_var rfl <| wa_cons <| we_call <| wa_cons <| we_var rfl <| wa_cons <| we_var rfl <| wa_nil ⟨g, rfl, g0, by omega, by omega, fun n B2 hn2 hB2 => wa_nil ⟨p, n, rfl, sp.mono (by decide), ten_b (n := g) (by omega) (by omega), ⟨ns ++ [n], ?_, by rw [List.length_append, hn]; rfl, fun m hm => ?_⟩, by omega, by omega⟩⟩, fun h => nomatch h⟩
      · rw [List.take_add_one, hp, List.zipWith_append (by rw [List.length_take, hn]; omega), List.map_append]; rfl
      · rcases List.mem_append.mp hm with h | h
        · exact hns m h
        · rw [List.mem_singleton.mp h]; exact hn2
    · obtain ⟨⟨ns, rfl, hn, hns⟩, hiL, hB'⟩ := hI
      rw [List.length_map] at hn hB'
      rw [List.length_map, List.take_length]
      refine wa_nil ⟨_, rfl, by rw [List.length_zipWith]; omega, fun q hq => ?_, ⟨ns, rfl, hn, hns⟩, by omega⟩
      obtain ⟨j, hj, e⟩ := List.mem_iff_getElem.mp hq
      rw [List.getElem_zipWith] at e
      rw [← e]
      rw [List.length_zipWith] at hj
      exact (SzP.pw (m := 4 * g + 1) (hsz _ (List.getElem_mem (by omega))) (ten_b (n := g) (Nat.le_of_lt (hns _ (List.getElem_mem (by omega)))) (by omega)) (by omega)).mono (by omega)
  rintro _ B5 ⟨⟨ns, rfl, hn, hns⟩, hB5⟩
  exact ws_ret <| we_tup <| wa_cons <| ix rfl rfl <| wa_cons <| ix rfl rfl <| wa_cons <| we_op <| ix rfl rfl <| we_op <| we_var rfl <| we_call <| wa_cons <| we_var rfl <| wa_cons <| we_var rfl <| wa_nil ⟨g, rfl, g0, by omega, by omega, fun n B6 n1 hB6 => ro_i (cmc (bh.mono (by decide)) ((ten_b (n := g) (k := 1000) (by omega) (by omega)).mono (by decide))) <| ro_i0 <| wa_nil ⟨Nat.le_of_ble_eq_true rfl, hk ns n _ hn hns n1 (by omega)⟩⟩
end
end AW

set_option linter.all false
set_option maxRecDepth 100000
set_option maxHeartbeats 8000000
namespace AW
open PySem PySem.Spec PyProof.Rows L2 LamX Tbl
variable [Tbs]
section
variable {P : Program} {w : World} {K : PySem.W.Frag} {mg : Str → Option Value} {base : Heap}
end
end AW

set_option linter.all false
set_option maxRecDepth 100000
set_option maxHeartbeats 8000000
namespace AW
open PySem PySem.Spec PyProof.Rows L2 LamX Tbl
variable [Tbs]
section
variable {P : Program} {w : World} {K : PySem.W.Frag} {mg : Str → Option Value} {base : Heap}
theorem tb_fld (T : Tx K mg) {E : XK} {e : EW} {B : Int} {i : Nat} {f : Str} {d : D} {k' : KD} {ρ : List (Option D)} {told L : List P3} {c : Int} {ls : List (Nat × Int × Nat)} {mids : List Nat} (h1 : ρ[i]? = some (some (tbD T told L c ls mids))) (na : NoAttr K T.C_Table f) (h2 : (tbN.zip (tbF T told L c ls mids)).lookup f = some d) (h3 : k' d B) : We K E e (tFld K (tVar i) f) ρ B k' := we_fld <| we_var h1 ⟨_, _, _, _, rfl, T.cl_Table, na, h2, h3⟩
theorem led_row {L : List P3} {c : Int} (h : Led L c) {i : Nat} {r : P3} (hr : L[i]? = some r) : (i = 0 ∧ (0 < r.1 ∨ r.1 = 0 ∧ 0 < r.2.1)) ∨ (i = 1 ∧ r.1 = 0 ∧ 0 < r.2.1) := by
  obtain ⟨_, _, rfl | ⟨r1, rfl, h1⟩ | ⟨r1, s, rfl, sx, rp, sp, _⟩⟩ := h
  · simp at hr
  · cases i with
    | zero => simp at hr; subst hr; exact .inl ⟨rfl, h1⟩
    | succ i => simp at hr
  · match i, hr with
    | 0, hr => simp at hr; subst hr; exact .inl ⟨rfl, .inl rp⟩
    | 1, hr => simp at hr; subst hr; exact .inr ⟨rfl, sx, sp⟩
/-- what is kept of a table: its rows are small -/
def TbS (L : List P3) (c : Int) : Prop := Led L c ∧ (∀ r ∈ L, SzR r) ∧ Bd 8999 c
end
end AW

set_option linter.all false
set_option maxRecDepth 100000
set_option maxHeartbeats 8000000
namespace AW
open PySem PySem.Spec PyProof.Rows L2 LamX Tbl
variable [Tbs]
section
variable {P : Program} {w : World} {K : PySem.W.Frag} {mg : Str → Option Value} {base : Heap}
theorem neD {a b : Int} (h : (!decide (a = b)) = true) : ¬ a = b := by simpa using h
theorem eqD {a b : Int} (h : (!decide (a = b)) = false) : a = b := by simpa using h
theorem wh_pos {L : List P3} {c : Int} (hL : Led L c) {i : Nat} {r : P3} (hr : L[i]? = some r) (g : P3) : 0 < (whP r g).1 := by
  unfold whP
  rcases led_row hL hr with ⟨_, h | ⟨h1, h2⟩⟩ | ⟨_, h1, h2⟩
  · rw [if_pos (by omega)]; exact h
  · rw [if_neg (by omega)]; exact h2
  · rw [if_neg (by omega)]; exact h2
theorem wh_bd {r g : P3} {k m : Nat} (h1 : Bd m r.1) (h2 : Bd m r.2.1) (g1 : Bd k g.1) (g2 : Bd k g.2.1) : Bd m (whP r g).1 ∧ Bd k (whP r g).2 := by
  unfold whP
  split
  · exact ⟨h1, g1⟩
  · exact ⟨h2, g2⟩
def pr_l_figures (T : Tx K mg) : Pr := fun ds B k e => ∃ (L : List P3) (c : Int) (p : P3), ds = [.lst (L.map tpD), .int c, tpD p] ∧ TbS L c ∧ Bd 40000 p.1 ∧ Bd 40000 p.2.1 ∧ ∀ d, (InT L c p → ∃ xs, d = .lst xs) → (¬ InT L c p → d = .non) → k d B
theorem okD_l_figures (T : Tx K mg) : FnOk P w K mg base (L2.CX P w) 2 T.a_l_figures T.d_l_figures P_l_figures (spD K (pr_l_figures T)) := by
  refine T.F_l_figures.okX sc_l_figures (spD_len fun ds B k e h => by obtain ⟨L, c, p, rfl, ⟨hL, hsr, bc⟩, b1, b2, hk⟩ := h; rfl) (fun cdv A outer s H vs Q E hr h => ?_)
  have G_l_mul : FnOk P w K mg base (L2.CX P w) 1 _ _ _ _ := okD_l_mul T
  have G_l_pow : FnOk P w K mg base (L2.CX P w) 1 _ _ _ _ := okD_l_pow T
  obtain ⟨G, ds, B, k, e, hs, hR, ⟨L, c, p, rfl, ⟨hL, hsr, bc⟩, b1, b2, hk⟩, hK, hX⟩ := h
  refine ⟨_, (pss_cons (ps_par (i := 3) (j := 4) (by rfl) sc_l_figures.nd rfl rfl (by decide) rfl rfl (pa_cons (pv 2) (pa_cons (pe_lst pa_nil) pa_nil)) (by rfl))
 (pss_cons (ps_for (passes_of rfl) rfl (pi_list (pv 0)) (pg_name (i := 5) sc_l_figures.nd rfl (.inl rfl))
 (pss_cons (ps_asg (pe_ifExp (pt_truI (pe_ix ix_tup (pv 5) pe_int (fun _ _ => rfl))) (pe_tup (pa_cons (pe_ix ix_tup (pv 5) pe_int (fun _ _ => rfl)) (pa_cons (pe_ix ix_tup (pv 3) pe_int (fun _ _ => rfl)) pa_nil))) (pe_tup (pa_cons (pe_ix ix_tup (pv 5) pe_int (fun _ _ => rfl)) (pa_cons (pe_ix ix_tup (pv 3) pe_int (fun _ _ => rfl)) pa_nil)))) (pg_tup rfl (pgs_cons (pg_name (i := 6) sc_l_figures.nd rfl (.inl rfl)) (pgs_cons (pg_name (i := 7) sc_l_figures.nd rfl (.inl rfl)) pgs_nil))))
 (pss_cons (ps_if (pt_truI (pe_op op_modN (pe_callTy call_int1 (by rfl) T.n_int (by decide +kernel) (pa_cons (pv 7) pa_nil)) (pv 6)))
 (pss_one (ps_ret pe_non))
 pss_nil)
 (pss_cons (ps_expr (pe_bm PySem.F.plainAttrs_list PySem.F.slot_list_append PySem.F.type_list_append mt_append (pv 4) (pa_cons (pe_op op_fdivG (pv 7) (pv 6)) pa_nil)))
 (pss_one (ps_set (i := 3) sc_l_figures.nd rfl (.inl rfl) (pe_call G_l_mul (hr.mono (by decide)) (by rfl) T.g_l_mul T.F_l_mul.kp T.b_l_mul .nil passL (pa_cons (pe_call G_l_pow (hr.mono (by decide)) (by rfl) T.g_l_pow T.F_l_pow.kp T.b_l_pow .nil passL (pa_cons (pv 5) (pa_cons (pe_un un_neg (pe_op op_fdivG (pv 7) (pv 6))) pa_nil))) (pa_cons (pv 3) pa_nil)))))))))
 (pss_cons (ps_if (PW.pt (pw_or (pt_cmpR op_ne (pe_ix ix_tup (pv 3) pe_int (fun _ _ => rfl)) pe_int (nomark _)) (pw_or (pt_cmpR op_ne (pe_ix ix_tup (pv 3) pe_int (fun _ _ => rfl)) pe_int (nomark _)) (pw_or (PW.pt (pw_and (pt_cmpR op_eq (pv 1) pe_int (nomark _)) (pw_and1 (pt_cmpR op_ne (pe_ix ix_tup (pv 3) pe_int (fun _ _ => rfl)) pe_int (nomark _))))) (pw_or1 (PW.pt (pw_and (pt_cmpR op_gt (pv 1) pe_int (nomark _)) (pw_and1 (pt_cmpR op_ne (pe_op op_modN (pe_callTy call_int1 (by rfl) T.n_int (by decide +kernel) (pa_cons (pe_ix ix_tup (pv 3) pe_int (fun _ _ => rfl)) pa_nil)) (pv 1)) pe_int (nomark _))))))))))
 (pss_one (ps_ret pe_non))
 pss_nil)
 (pss_one (ps_ret (pe_op op_cat (pv 4) (pe_lst (pa_cons (pe_ifExp (pt_truI (pv 1)) (pe_op op_fdivG (pe_ix ix_tup (pv 3) pe_int (fun _ _ => rfl)) (pv 1)) pe_int) pa_nil)))))))), run_body (ρ := [some (.lst (L.map tpD)), some (.int c), some (tpD p), none, none, none, none, none]) hs hR hK hX rfl ?_⟩
  have hl2 := led_len hL
  have zL : 1000 < sizeLine := by decide
  have no : ¬ FigOk L c p → k .non B := fun h => hk _ (fun z => absurd ((fig_iff hL p).mpr z) h) fun _ => rfl
  have yes : ∀ xs, FigOk L c p → k (.lst xs) B := fun xs h => hk _ (fun _ => ⟨xs, rfl⟩) fun z => absurd ((fig_iff hL p).mp h) z
  refine wb_startPar (by decide) (Nat.le_of_ble_eq_true rfl) <| we_var rfl ?_
  refine wb_cut (fun ρ' ds' B' => (∃ (g : P3) (o5 o6 o7 : Option D), ρ' = [some (.lst (L.map tpD)), some (.int c), some (tpD p), some (tpD g), none, o5, o6, o7] ∧ figL L p = some g) ∧ ds'.length ≤ 2 ∧ B = B') ?_ ?_
  · refine wo_for_list <| we_var rfl ⟨_, rfl, fun i ρ' ds' B' => (∃ (g : P3) (o5 o6 o7 : Option D), ρ' = [some (.lst (L.map tpD)), some (.int c), some (tpD p), some (tpD g), none, o5, o6, o7] ∧ figL L p = figL (L.drop i) g ∧ Bd (40000 + 9000 * i) g.1 ∧ Bd (40000 + 9000 * i) g.2.1) ∧ ds'.length ≤ i ∧ B = B', ⟨⟨p, none, none, none, rfl, rfl, b1, b2⟩, Nat.le_refl _, rfl⟩, fun i x ρ' ds' B' hi hI p1 => ?_, fun ρ' ds' B' hI => ?_⟩
    · obtain ⟨⟨g, o5, o6, o7, rfl, hf, c1, c2⟩, hd, rfl⟩ := hI
      obtain ⟨r, hr, rfl⟩ := at_map hi
      have hi2 := (List.getElem?_eq_some_iff.mp hr).1
      obtain ⟨sr, s1, s2⟩ := hsr r (List.mem_of_getElem? hr)
      have wp := wh_pos hL hr g
      obtain ⟨w1, w2⟩ := wh_bd s1 s2 c1 c2
      have edrop : L.drop i = r :: L.drop (i + 1) := by
        obtain ⟨h, e⟩ := List.getElem?_eq_some_iff.mp hr
        rw [← e]; exact List.drop_eq_getElem_cons h
      rw [edrop] at hf
      have hf : figL L p = if (whP r g).2 % (whP r g).1 ≠ 0 then none else figL (L.drop (i + 1)) (stP r g) := hf
      have est : stP r g = mu (pw r (-((whP r g).2 / (whP r g).1))) g := rfl
      refine wg_name ⟨rfl, ?_⟩
      refine wo_cut (fun ρ' ds2 B' => ρ' = [some (.lst (L.map tpD)), some (.int c), some (tpD p), some (tpD g), none, some (tpD r), some (.int (whP r g).1), some (.int (whP r g).2)] ∧ ds2 = ds' ∧ B = B') ?_ ?_
      · refine wo_ws fun p0 => ws_asg <| we_ifE <| wt_truI <| ix rfl rfl ⟨_, rfl, fun h => ?_, fun h => ?_⟩
        · have h : r.1 ≠ 0 := by simpa using h
          have e : whP r g = (r.1, g.1) := by unfold whP; rw [if_pos h]
          rw [e]
          exact we_tup <| wa_cons <| ix rfl rfl <| wa_cons <| ix rfl rfl <| wa_nil ⟨Nat.le_of_ble_eq_true rfl, wg_tup rfl <| wgs_cons <| wg_name <| wgs_cons <| wg_name <| wgs_nil ⟨rfl, rfl, rfl, rfl⟩⟩
        · have h : ¬ r.1 ≠ 0 := by simpa using h
          have e : whP r g = (r.2.1, g.2.1) := by unfold whP; rw [if_neg h]
          rw [e]
          exact we_tup <| wa_cons <| ix rfl rfl <| wa_cons <| ix rfl rfl <| wa_nil ⟨Nat.le_of_ble_eq_true rfl, wg_tup rfl <| wgs_cons <| wg_name <| wgs_cons <| wg_name <| wgs_nil ⟨rfl, rfl, rfl, rfl⟩⟩
      rintro _ _ _ ⟨rfl, rfl, rfl⟩
      generalize whP r g = W at *
      have wn : W.1 ≠ 0 := by omega
      refine wo_cut (fun ρ' ds2 B' => ρ' = [some (.lst (L.map tpD)), some (.int c), some (tpD p), some (tpD g), none, some (tpD r), some (.int W.1), some (.int W.2)] ∧ ds2 = ds2 ∧ figL L p = figL (L.drop (i + 1)) (stP r g) ∧ ds2.length ≤ i ∧ B = B') ?_ ?_
      · refine wo_ws fun p0 => ws_if <| wt_truI <| we_op <| we_intof <| wa_cons <| we_var rfl <| wa_nil ⟨_, rfl, we_var rfl <| ro_i wn ⟨_, rfl, fun h => ?_, fun h => ?_⟩⟩
        · have h : W.2.fmod W.1 ≠ 0 := by simpa using h
          rw [Int.fmod_eq_emod_of_nonneg _ (by omega)] at h
          rw [if_pos h] at hf
          exact ws_ret <| we_non <| no fun ⟨z, hz, _⟩ => by rw [hf] at hz; cases hz
        · have h : ¬ W.2.fmod W.1 ≠ 0 := by simpa using h
          rw [Int.fmod_eq_emod_of_nonneg _ (by omega)] at h
          rw [if_neg h] at hf
          exact ws_next ⟨rfl, rfl, rfl, hf, hd, rfl⟩
      rintro _ ds2 _ ⟨rfl, _, hf2, hd2, rfl⟩
      have cdiv : CDivG W.2 W.1 := ⟨wn, lg_lt (w1.mono (by decide)) (by decide)⟩
      refine wo_cut (fun ρ' ds3 B' => ρ' = [some (.lst (L.map tpD)), some (.int c), some (tpD p), some (tpD g), none, some (tpD r), some (.int W.1), some (.int W.2)] ∧ ds3.length ≤ i + 1 ∧ B = B') ?_ ?_
      · exact wo_app <| we_op <| we_var rfl <| we_var rfl <| ro_i cdiv ⟨by omega, rfl, by rw [List.length_append]; exact Nat.succ_le_succ hd2, rfl⟩
      rintro _ ds3 _ ⟨rfl, hd3, rfl⟩
      obtain ⟨t, ht⟩ : ∃ t, t = W.2.fdiv W.1 := ⟨_, rfl⟩
      have bt : Bd (40000 + 9000 * i) t := by rw [ht]; exact Bd.fdiv w2
      rw [est, ← Int.fdiv_eq_ediv_of_nonneg _ (by omega), ← ht] at hf2
      have bx : Bd (40000 + 9000 * (i + 1)) (-t * r.1 + g.1) := Bd.mono (Bd.add ((Bd.mul bt.neg s1).mono (show _ ≤ 40000 + 9000 * i + 8999 by omega)) (c1.mono (by omega))) (by omega)
      have byy : Bd (40000 + 9000 * (i + 1)) (-t * r.2.1 + g.2.1) := Bd.mono (Bd.add ((Bd.mul bt.neg s2).mono (show _ ≤ 40000 + 9000 * i + 8999 by omega)) (c2.mono (by omega))) (by omega)
      refine wo_ws fun p0 => ws_set <| we_call <| wa_cons <| we_call <| wa_cons <| we_var rfl <| wa_cons <| we_neg <| we_op <| we_var rfl <| we_var rfl <| ro_i cdiv ⟨_, rfl, wa_nil ?_⟩
      rw [← ht]
      exact ⟨r, -t, rfl, sr.mono (by decide), bt.neg.mono (by omega), wa_cons <| we_var rfl <| wa_nil ⟨_, _, rfl, cmc ((Bd.mul bt.neg s1).mono (show _ ≤ 400000 by omega)) (c2.mono (show _ ≤ 400000 by omega)), rfl, ⟨_, _, _, _, rfl, hf2, bx, byy⟩, hd3, rfl⟩⟩
    · obtain ⟨⟨g, o5, o6, o7, rfl, hf, c1, c2⟩, hd, rfl⟩ := hI
      rw [List.length_map] at hf hd
      rw [List.drop_length] at hf
      exact ⟨⟨g, _, _, _, rfl, hf⟩, by omega, rfl⟩
  rintro _ ds9 _ ⟨⟨g, o5, o6, o7, rfl, hf⟩, hd9, rfl⟩
  have hfo : FigOk L c p ↔ okEnd c g := by
    unfold FigOk
    rw [hf]
    exact ⟨fun ⟨z, e, h⟩ => by cases e; exact h, fun h => ⟨g, rfl, h⟩⟩
  have c0 := hL.1
  refine wb_end (Nat.le_of_ble_eq_true rfl) ?_
  have good : okEnd c g → Ws K E e (tRet (tOp rCat (tVar 4) (tLst (tCons (tIf (tI K (tVar 1)) (tOp (rI CDivG fun i j => V.int (i.fdiv j)) (tOp (rIxT K) (tVar 3) (tC (.int 2))) (tVar 1)) (tC (.int 0))) tNil)))) [some (.lst (L.map tpD)), some (.int c), some (tpD p), some (tpD g), some (.lst ds9), o5, o6, o7] B { nx := fun _ B' => k D.non B', rt := k } := fun h => by
    refine ws_ret <| we_op <| we_var rfl <| we_lst <| wa_cons <| we_ifE <| wt_truI <| we_var rfl ⟨_, rfl, fun hc => ?_, fun hc => ?_⟩
    · have hc : c ≠ 0 := by simpa using hc
      exact we_op <| ix rfl rfl <| we_var rfl <| ro_i ⟨hc, lg_lt (bc.mono (by decide)) (by decide)⟩ <| wa_nil ⟨Nat.le_of_ble_eq_true rfl, ro_catL (by show ds9.length + 1 ≤ _; omega) <| yes _ (hfo.mpr h)⟩
    · exact we_int <| wa_nil ⟨Nat.le_of_ble_eq_true rfl, ro_catL (by show ds9.length + 1 ≤ _; omega) <| yes _ (hfo.mpr h)⟩
  have nobad : ∀ {q : Prop}, ¬ q → (q ↔ okEnd c g) → ¬ FigOk L c p := fun h1 h2 z => h1 (h2.mpr (hfo.mp z))
  refine ws_seq <| ws_if <| wt_or <| wt_test <| we_op <| ix rfl rfl <| we_int <| ro_neI ⟨_, rfl, fun h => ?_, fun h1 => ?_⟩
  · exact ⟨fun _ => ws_ret <| we_non <| no fun z => neD h (hfo.mp z).1, fun h => nomatch h⟩
  have h1 : g.1 = 0 := eqD h1
  refine wt_or <| wt_test <| we_op <| ix rfl rfl <| we_int <| ro_neI ⟨_, rfl, fun h => ?_, fun h2 => ?_⟩
  · exact ⟨fun _ => ws_ret <| we_non <| no fun z => neD h (hfo.mp z).2.1, fun h => nomatch h⟩
  have h2 : g.2.1 = 0 := eqD h2
  refine wt_or <| wt_and <| wt_test <| we_op <| we_var rfl <| we_int <| ro_eqI ⟨_, rfl, fun h3 => ?_, fun h3 => ?_⟩
  · have h3 := of_decide_eq_true h3
    refine wt_test <| we_op <| ix rfl rfl <| we_int <| ro_neI ⟨_, rfl, fun h4 => ?_, fun h4 => ?_⟩
    · exact ⟨fun _ => ws_ret <| we_non <| no fun z => by
        have := (hfo.mp z).2.2
        rw [h3] at this
        exact neD h4 (Int.zero_dvd.mp this), fun h => nomatch h⟩
    · have h4 : g.2.2 = 0 := eqD h4
      refine wt_and <| wt_test <| we_op <| we_var rfl <| we_int <| ro_b0 ⟨_, rfl, fun h5 => ?_, fun h5 => ?_⟩
      · have h5 := of_decide_eq_true h5
        omega
      · exact ⟨(fun h => nomatch h), fun _ => ws_next (good ⟨h1, h2, by rw [h4]; exact Int.dvd_zero c⟩)⟩
  · have h3 := of_decide_eq_false h3
    refine ⟨(fun h => nomatch h), fun _ => ?_⟩
    refine wt_and <| wt_test <| we_op <| we_var rfl <| we_int <| ro_b0 ⟨_, rfl, fun h5 => ?_, fun h5 => ?_⟩
    · refine wt_test <| we_op <| we_op <| we_intof <| wa_cons <| ix rfl rfl <| wa_nil ⟨_, rfl, we_var rfl <| ro_i h3 <| we_int <| ro_neI ⟨_, rfl, fun h4 => ?_, fun h4 => ?_⟩⟩
      · have h4 := neD h4
        rw [Int.fmod_eq_emod_of_nonneg _ c0] at h4
        exact ws_ret <| we_non <| no fun z => h4 (Int.emod_eq_zero_of_dvd (hfo.mp z).2.2)
      · have h4 := eqD h4
        rw [Int.fmod_eq_emod_of_nonneg _ c0] at h4
        exact ws_next (good ⟨h1, h2, Int.dvd_of_emod_eq_zero h4⟩)
    · have h5 := of_decide_eq_false h5
      omega
end
end AW

set_option linter.all false
set_option maxRecDepth 100000
set_option maxHeartbeats 8000000
namespace AW
open PySem PySem.Spec PyProof.Rows L2 LamX Tbl
variable [Tbs]
section
variable {P : Program} {w : World} {K : PySem.W.Frag} {mg : Str → Option Value} {base : Heap}
end
end AW

set_option linter.all false
set_option maxRecDepth 100000
set_option maxHeartbeats 8000000
namespace AW
open PySem PySem.Spec PyProof.Rows L2 LamX Tbl
variable [Tbs]
section
variable {P : Program} {w : World} {K : PySem.W.Frag} {mg : Str → Option Value} {base : Heap}
def pr_l_ledge_right (T : Tx K mg) : Pr := fun ds B k e => ∃ (L : List P3) (c : Int), ds = [.lst (L.map tpD), .int c] ∧ TbS L c ∧ k (.bl true) B
theorem okD_l_ledge_right (T : Tx K mg) : FnOk P w K mg base (L2.CX P w) 2 T.a_l_ledge_right T.d_l_ledge_right P_l_ledge_right (spD K (pr_l_ledge_right T)) := by
  refine T.F_l_ledge_right.okX sc_l_ledge_right (spD_len fun ds B k e h => by obtain ⟨L, c, rfl, ⟨hL, hsr, bc⟩, hk⟩ := h; rfl) (fun cdv A outer s H vs Q E hr h => ?_)
  have G_l_whole_is : FnOk P w K mg base (L2.CX P w) 1 _ _ _ _ := okD_l_whole_is T
  obtain ⟨G, ds, B, k, e, hs, hR, ⟨L, c, rfl, ⟨hL, hsr, bc⟩, hk⟩, hK, hX⟩ := h
  refine ⟨_, (pss_cons (ps_if (PW.pt (pw_or (pt_not (pt_val (pe_call G_l_whole_is (hr.mono (by decide)) (by rfl) T.g_l_whole_is T.F_l_whole_is.kp T.b_l_whole_is .nil passL (pa_cons (pv 1) (pa_cons (pv 1) pa_nil))))) (pw_or (pt_cmpR op_lt (pv 1) pe_int (nomark _)) (pw_or1 (pt_cmpR op_gt (pe_callB call_len_seq (by rfl) T.n_len (by decide +kernel) (pa_cons (pv 0) pa_nil)) pe_int (nomark _))))))
 (pss_one (ps_ret pe_bl))
 pss_nil)
 (pss_cons (ps_if (PW.pt (pw_and (pt_cmpR op_gt (pv 1) pe_int (nomark _)) (pw_and1 (pt_not (pt_val (pe_callB (cr_all rfl) (by rfl) T.n_all (by decide +kernel) (pa_cons (pe_lc (te := (tChain (rI0 fun i j => V.bl (decide (i ≤ j))) (rI0 fun i j => V.bl (decide (i < j))) (tC (.int 0)) (tOp (rIxT K) (tVar 8) (tC (.int 2))) (tVar 1))) (own := [("_law_row_here", 8)]) (g := gName 8) (by rfl) sc_l_ledge_right.nd (pi_list (pv 0)) (blkOk_by (own := [("_law_row_here", 8)]) (N := N_l_ledge_right) (sc := defScope s_l_ledge_right) (by decide +kernel)) (fun _ _ _ _ _ => pg_name (i := 8) sc_l_ledge_right.nd rfl (Or.inl rfl)) (fun _ _ _ _ _ => pts_nil) (fun _ _ _ _ _ => (pe_chain op_le op_lt pe_int (pe_ix ix_tup (pv 8) pe_int (fun _ _ => rfl)) (pv 1)))) pa_nil)))))))
 (pss_one (ps_ret pe_bl))
 pss_nil)
 (pss_cons (ps_if (pt_cmpR op_eq (pe_callB call_len_seq (by rfl) T.n_len (by decide +kernel) (pa_cons (pv 0) pa_nil)) pe_int (nomark _))
 (pss_one (ps_ret (pe_or (pe_cmpR op_gt (pe_ix ix_seq (pe_ix ix_list (pv 0) pe_int (fun _ _ => rfl)) pe_int (fun _ _ => rfl)) pe_int (nomark _)) (pe_one (pe_and (pe_cmpR op_eq (pe_ix ix_seq (pe_ix ix_list (pv 0) pe_int (fun _ _ => rfl)) pe_int (fun _ _ => rfl)) pe_int (nomark _)) (pe_one (pe_cmpR op_gt (pe_ix ix_seq (pe_ix ix_list (pv 0) pe_int (fun _ _ => rfl)) pe_int (fun _ _ => rfl)) pe_int (nomark _))))))))
 pss_nil)
 (pss_cons (ps_if (pt_cmpR op_eq (pe_callB call_len_seq (by rfl) T.n_len (by decide +kernel) (pa_cons (pv 0) pa_nil)) pe_int (nomark _))
 (pss_cons (ps_asg (pv 0) (pg_unl rfl (pgs_cons (pg_tup rfl (pgs_cons (pg_name (i := 2) sc_l_ledge_right.nd rfl (.inl rfl)) (pgs_cons (pg_name (i := 3) sc_l_ledge_right.nd rfl (.inl rfl)) (pgs_cons (pg_name (i := 4) sc_l_ledge_right.nd rfl (.inl rfl)) pgs_nil)))) (pgs_cons (pg_tup rfl (pgs_cons (pg_name (i := 5) sc_l_ledge_right.nd rfl (.inl rfl)) (pgs_cons (pg_name (i := 6) sc_l_ledge_right.nd rfl (.inl rfl)) (pgs_cons (pg_name (i := 7) sc_l_ledge_right.nd rfl (.inl rfl)) pgs_nil)))) pgs_nil))))
 (pss_one (ps_ret (pe_and (pe_cmpR op_eq (pv 5) pe_int (nomark _)) (pe_and (pe_cmpR op_gt (pv 2) pe_int (nomark _)) (pe_and (pe_cmpR op_gt (pv 6) pe_int (nomark _)) (pe_and (pe_chain op_le op_lt pe_int (pv 3) (pv 6)) (pe_and (pe_cmpR op_gt (pv 1) pe_int (nomark _)) (pe_one (pe_cmpR op_eq (pe_op op_modN (pe_callTy call_int1 (by rfl) T.n_int (by decide +kernel) (pa_cons (pe_op op_mulW (pv 2) (pv 6)) pa_nil)) (pv 1)) pe_int (nomark _)))))))))))
 pss_nil)
 (pss_one (ps_ret pe_bl)))))), run_body (ρ := [some (.lst (L.map tpD)), some (.int c), none, none, none, none, none, none, none]) hs hR hK hX rfl ?_⟩
  have hl2 := led_len hL
  have c0 := hL.1
  have har := hL.2.1
  have zL : 1000 < sizeLine := by decide
  refine ws_cut (fun ρ' B' => ρ' = [some (.lst (L.map tpD)), some (.int c), none, none, none, none, none, none, none] ∧ B = B') ?_ ?_
  · refine ws_if <| wt_or <| wt_not <| wt_val <| we_call <| wa_cons <| we_var rfl <| wa_cons <| we_var rfl <| wa_nil ⟨c, c, rfl, _, rfl, ?_⟩
    rw [decide_eq_true rfl]
    refine ⟨(fun h => nomatch h), fun _ => wt_or <| wt_test <| we_op <| we_var rfl <| we_int <| ro_b0 ⟨_, rfl, (fun h => absurd (of_decide_eq_true h) (by omega)), fun _ => ?_⟩⟩
    refine wt_test <| we_op <| we_lenL <| wa_cons <| we_var rfl <| wa_nil ⟨_, rfl, we_int <| ro_b0 ⟨_, rfl, (fun h => ?_), fun _ => ws_next ⟨rfl, rfl⟩⟩⟩
    have h := of_decide_eq_true h
    rw [List.length_map] at h
    omega
  rintro _ _ ⟨rfl, rfl⟩
  refine ws_cut (fun ρ' B' => ρ' = [some (.lst (L.map tpD)), some (.int c), none, none, none, none, none, none, none] ∧ B = B') ?_ ?_
  · refine ws_if <| wt_and <| wt_test <| we_op <| we_var rfl <| we_int <| ro_b0 ⟨_, rfl, (fun h => ?_), fun h => ⟨(fun h => nomatch h), fun _ => ws_next ⟨rfl, rfl⟩⟩⟩
    have h := of_decide_eq_true h
    have hall := har h
    refine wt_not <| wt_val <| we_all <| wa_cons <| we_lc_list (E1 := E0) <| we_var rfl ⟨_, rfl, by rw [List.length_map]; omega, fun i out B' => out = (List.replicate i true).map D.bl ∧ B = B', ⟨rfl, rfl⟩, fun i x out B' hi hI => ?_, fun out B' _ hI => ?_⟩
    · obtain ⟨rfl, rfl⟩ := hI
      obtain ⟨r, hr, rfl⟩ := at_map hi
      obtain ⟨z1, z2⟩ := hall r (List.mem_of_getElem? hr)
      refine wt_yes ⟨fun _ => we_chain <| we_int <| ix rfl rfl <| ro_b0 ⟨_, rfl, (fun _ => we_var rfl <| ro_b0 ⟨?_, rfl⟩), fun h => absurd z1 (by simpa using h)⟩, fun h => nomatch h⟩
      rw [decide_eq_true z2, List.replicate_succ', List.map_append]
      rfl
    · obtain ⟨rfl, rfl⟩ := hI
      refine wa_nil ⟨_, rfl, _, rfl, (fun h => ?_), fun _ => ws_next ⟨rfl, rfl⟩⟩
      exact absurd h (by simp)
  rintro _ _ ⟨rfl, rfl⟩
  refine ws_seq <| ws_if <| wt_test <| we_op <| we_lenL <| wa_cons <| we_var rfl <| wa_nil ⟨_, rfl, we_int <| ro_eqI ⟨_, rfl, fun h => ?_, fun h => ws_next ?_⟩⟩
  · have h := of_decide_eq_true h
    rw [List.length_map] at h
    obtain ⟨_, _, rfl | ⟨r, rfl, hr⟩ | ⟨r1, s, rfl, _⟩⟩ := hL
    · simp at h
    · have at0 : ∀ {n : Int} {d : D} {k' : KD}, atI [D.int r.1, .int r.2.1, .int r.2.2] n = some d → k' d B → We K E e (tOp (rIx K) (tOp (rIxL K) (tVar 0) (tC (.int 0))) (tC (.int n))) [some (.lst ([r].map tpD)), some (.int c), none, none, none, none, none, none, none] B k' := fun h1 h2 => we_op <| we_op <| we_var rfl <| we_int <| ro_ixL (d := tpD r) rfl <| we_int <| ro_ixSq true h1 h2
      refine ws_ret <| we_or <| we_op <| at0 rfl <| we_int <| ro_b0 ⟨_, rfl, fun _ => hk, fun h5 => ?_⟩
      have h5 := of_decide_eq_false h5
      rcases hr with hr | ⟨h6, h7⟩
      · exact absurd hr h5
      refine we_and <| we_op <| at0 rfl <| we_int <| ro_eqI ⟨_, rfl, fun _ => we_op <| at0 rfl <| we_int <| ro_b0 ?_, fun h => absurd h6 (of_decide_eq_false h)⟩
      rw [decide_eq_true (show r.2.1 > 0 from h7)]
      exact hk
    · simp at h
  have h := of_decide_eq_false h
  rw [List.length_map] at h
  refine ws_seq <| ws_if <| wt_test <| we_op <| we_lenL <| wa_cons <| we_var rfl <| wa_nil ⟨_, rfl, we_int <| ro_eqI ⟨_, rfl, fun h2 => ?_, fun h2 => ws_next <| ws_ret <| we_bl hk⟩⟩
  have h2 := of_decide_eq_true h2
  rw [List.length_map] at h2
  obtain ⟨_, _, rfl | ⟨r, rfl, hr⟩ | ⟨r, s', rfl, sx, rp, sp, q0, q1, cp, hd⟩⟩ := hL
  · simp at h2
  · simp at h2
  obtain ⟨sr, s1, _⟩ := hsr r (List.mem_cons_self ..)
  obtain ⟨ss, _, s2⟩ := hsr s' (List.mem_cons_of_mem _ (List.mem_cons_self ..))
  refine ws_seq <| ws_asg <| we_var rfl <| wg_unl rfl <| wgs_cons <| wg_tup rfl <| wgs_cons <| wg_name <| wgs_cons <| wg_name <| wgs_cons <| wg_name <| wgs_nil <| wgs_cons <| wg_tup rfl <| wgs_cons <| wg_name <| wgs_cons <| wg_name <| wgs_cons <| wg_name <| wgs_nil <| wgs_nil ?_
  refine ws_ret <| we_and <| we_op <| we_var rfl <| we_int <| ro_eqI ⟨_, rfl, fun _ => ?_, fun z => absurd sx (of_decide_eq_false z)⟩
  refine we_and <| we_op <| we_var rfl <| we_int <| ro_b0 ⟨_, rfl, fun _ => ?_, fun z => absurd rp (of_decide_eq_false z)⟩
  refine we_and <| we_op <| we_var rfl <| we_int <| ro_b0 ⟨_, rfl, fun _ => ?_, fun z => absurd sp (of_decide_eq_false z)⟩
  refine we_and <| we_chain <| we_int <| we_var rfl <| ro_b0 ⟨_, rfl, fun _ => we_var rfl <| ro_b0 ⟨_, rfl, fun _ => ?_, fun z => absurd q1 (of_decide_eq_false z)⟩, fun z => absurd q0 (of_decide_eq_false z)⟩
  refine we_and <| we_op <| we_var rfl <| we_int <| ro_b0 ⟨_, rfl, fun _ => ?_, fun z => absurd cp (of_decide_eq_false z)⟩
  refine we_op <| we_op <| we_intof <| wa_cons <| we_op <| we_var rfl <| we_var rfl <| ro_i (cmc (s1.mono (by decide)) (s2.mono (by decide))) <| wa_nil ⟨_, rfl, we_var rfl <| ro_i (show c ≠ 0 by omega) <| we_int <| ro_eqI ?_⟩
  rw [decide_eq_true (show (r.1 * s'.2.1).fmod c = 0 by rw [Int.fmod_eq_emod_of_nonneg _ c0]; exact Int.emod_eq_zero_of_dvd hd)]
  exact hk
end
end AW

set_option linter.all false
set_option maxRecDepth 100000
set_option maxHeartbeats 8000000
namespace AW
open PySem PySem.Spec PyProof.Rows L2 LamX Tbl
variable [Tbs]
section
variable {P : Program} {w : World} {K : PySem.W.Frag} {mg : Str → Option Value} {base : Heap}
theorem bw_step {told V : List P3} {ls : List (Nat × Int × Nat)} (h : Bw told V ls) : ∀ (n i j : Nat) (m : Int), ls[n]? = some (i, m, j) → ∃ u v, (V.take (told.length + 1 + n))[i]? = some u ∧ (V.take (told.length + 1 + n))[j]? = some v ∧ SzP 60000 u ∧ SzP 60000 v ∧ Bd 60000 m ∧ V.take (told.length + 1 + (n + 1)) = V.take (told.length + 1 + n) ++ [mu u (pw v m)] := by
  induction h with
  | start => intro n i j m h; simp at h
  | @line V' ls' i0 j0 m0 u v h hu hv su sv bm ih =>
    intro n i j m hn
    have hl := h.len
    by_cases hc : n < ls'.length
    · rw [List.getElem?_append_left hc] at hn
      obtain ⟨u1, v1, a1, a2, a3, a4, a5, a6⟩ := ih n i j m hn
      have t1 : (V' ++ [mu u (pw v m0)]).take (told.length + 1 + n) = V'.take (told.length + 1 + n) := List.take_append_of_le_length (by omega)
      have t2 : (V' ++ [mu u (pw v m0)]).take (told.length + 1 + (n + 1)) = V'.take (told.length + 1 + (n + 1)) := List.take_append_of_le_length (by omega)
      rw [t1, t2]
      exact ⟨u1, v1, a1, a2, a3, a4, a5, a6⟩
    · rw [List.getElem?_append_right (by omega)] at hn
      have e1 : n - ls'.length = 0 := by
        have := (List.getElem?_eq_some_iff.mp hn).1
        simp at this; omega
      rw [e1] at hn
      have hn : (i0, m0, j0) = (i, m, j) := by simpa using hn
      injection hn with x1 x2
      injection x2 with x2 x3
      subst x1 x2 x3
      have en : told.length + 1 + n = V'.length := by omega
      have t1 : (V' ++ [mu u (pw v m0)]).take (told.length + 1 + n) = V' := by rw [en]; exact List.take_left' rfl
      have t2 : (V' ++ [mu u (pw v m0)]).take (told.length + 1 + (n + 1)) = V' ++ [mu u (pw v m0)] := List.take_of_length_le (by rw [List.length_append]; simp; omega)
      rw [t1, t2]
      exact ⟨u, v, hu, hv, su, sv, bm, rfl⟩
theorem bw_start {told V : List P3} {ls : List (Nat × Int × Nat)} (h : Bw told V ls) : V.take (told.length + 1) = e0 :: told := by
  obtain ⟨W, e⟩ := h.pre
  rw [← e]
  exact List.take_left' (by simp)
theorem kit_tl {K : PySem.W.Frag} : PySem.W.kitAny K (.type "tuple") [.type "tuple", .type "list"] = some true := by kernel_rfl
end
end AW

set_option linter.all false
set_option maxRecDepth 100000
set_option maxHeartbeats 8000000
namespace AW
open PySem PySem.Spec PyProof.Rows L2 LamX Tbl
variable [Tbs]
section
variable {P : Program} {w : World} {K : PySem.W.Frag} {mg : Str → Option Value} {base : Heap}
theorem ok_lm {α : Type} {f : α → D} (h : ∀ a, pyOk (f a) = true) (L : List α) : pyOk (.lst (L.map f)) = true := by
  show pyOkL (L.map f) = true
  induction L with
  | nil => rfl
  | cons a r ih => show (pyOk (f a) && pyOkL (r.map f)) = true; rw [h, ih]; rfl
theorem sh_lm {α : Type} {f : α → D} (h1 : ∀ a, (py (f a)).canLay0 = true) (h2 : ∀ a, (py (f a)).depth ≤ 4) (L : List α) : SeqAt.shaped (py (.lst (L.map f))) = true := by
  refine shaped_of ?_ (decide_eq_true ?_)
  · show (PyData.list (pyL (L.map f))).canLay0 = true
    have : PyData.canLayAll0 (pyL (L.map f)) = true := by
      induction L with
      | nil => rfl
      | cons a r ih => show PyData.canLayAll0 (py (f a) :: pyL (r.map f)) = true; simp only [PyData.canLayAll0, h1, ih, Bool.and_true]
    simpa [PyData.canLay0] using this
  · show (PyData.list (pyL (L.map f))).depth ≤ 64
    have : PyData.depthAll (pyL (L.map f)) ≤ 4 := by
      induction L with
      | nil => simp [pyL, PyData.depthAll]
      | cons a r ih =>
        show PyData.depthAll (py (f a) :: pyL (r.map f)) ≤ 4
        have := h2 a
        simp only [PyData.depthAll]
        omega
    simp only [PyData.depth]
    omega
theorem tyD_tb (T : Tx K mg) {told L : List P3} {c : Int} {ls : List (Nat × Int × Nat)} {mids : List Nat} : TyD K (tbD T told L c ls mids) (.ref T.C_Table) := fun v G H B s r => by
  obtain ⟨a, dx, vs, rfl, ha, _⟩ := r
  exact .base (.ins (s _ _ ha) T.cl_Table T.ca_Table T.cn T.ct T.cm_Table)
theorem kit_tt {K : PySem.W.Frag} : PySem.W.kitOne K (.type "tuple") (.type "tuple") = some true := by kernel_rfl
end
end AW

set_option linter.all false
set_option maxRecDepth 100000
set_option maxHeartbeats 8000000
namespace AW
open PySem PySem.Spec PyProof.Rows L2 LamX Tbl
variable [Tbs]
section
variable {P : Program} {w : World} {K : PySem.W.Frag} {mg : Str → Option Value} {base : Heap}
abbrev oD : Option Int → D
  | none => .non
  | some i => .int i
theorem bdz {k : Nat} : Bd k 0 := Nat.pos_of_ne_zero (by have := Nat.one_le_two_pow (n := k); omega)
theorem ndec {p : Prop} [Decidable p] (h : (!decide p) = true) : ¬ p := by simpa using h
theorem ydec {p : Prop} [Decidable p] (h : (!decide p) = false) : p := by simpa using h
theorem ne_of_dec {a b : Int} (h : (!decide (a = b)) = true) : ¬ a = b := by simpa using h
theorem eq_of_dec {a b : Int} (h : (!decide (a = b)) = false) : a = b := by simpa using h
def pr_is_multiple (T : Tx K mg) : Pr := fun ds B k e => ∃ v m : Int, ds = [.int v, .int m] ∧ k (.bl (decide (m ∣ v))) B
theorem okD_is_multiple (T : Tx K mg) : FnOk P w K mg base (L2.CX P w) 1 T.a_is_multiple T.d_is_multiple P_is_multiple (spD K (pr_is_multiple T)) := by
  refine T.F_is_multiple.okX sc_is_multiple (spD_len fun ds B k e h => by obtain ⟨v, m, rfl, hk⟩ := h; rfl) (fun cdv A outer s H vs Q E hr h => ?_)
  obtain ⟨G, ds, B, k, e, hs, hR, ⟨v, m, rfl, hk⟩, hK, hX⟩ := h
  refine ⟨_, (pss_cons (ps_if (pt_cmpR op_eq (pv 1) pe_int (nomark _))
 (pss_one (ps_ret (pe_cmpR op_eq (pv 0) pe_int (nomark _))))
 pss_nil)
 (pss_one (ps_ret (pe_cmpR op_eq (pe_op op_modN (pv 0) (pv 1)) pe_int (nomark _))))), run_body (ρ := [some (.int v), some (.int m)]) hs hR hK hX rfl ?_⟩
  refine ws_seq (ws_if (wt_test (we_op (we_var rfl (we_int (ro_eqI ⟨_, rfl, fun h1 => ?_, fun h1 => ?_⟩))))))
  · have z := of_decide_eq_true h1
    subst z
    refine ws_ret (we_op (we_var rfl (we_int (ro_eqI ?_))))
    rw [show decide (v = 0) = decide ((0 : Int) ∣ v) from decide_eq_decide.mpr Int.zero_dvd.symm]
    exact hk
  · have z := of_decide_eq_false h1
    refine ws_next ?_
    refine ws_ret (we_op (we_op (we_var rfl (we_var rfl (ro_i z (we_int (ro_eqI ?_)))))))
    rw [show decide (v.fmod m = 0) = decide (m ∣ v) from decide_eq_decide.mpr ⟨fun h => ⟨v.fdiv m, by have := Int.mul_fdiv_add_fmod v m; omega⟩, fun h => Int.fmod_eq_zero_of_dvd h⟩]
    exact hk
theorem gcd_bd {k : Nat} {m v : Int} (hm : m ≠ 0) (h : Bd k m) : ((Nat.gcd m.natAbs v.natAbs : Nat) : Int) ≠ 0 ∧ Bd k ((Nat.gcd m.natAbs v.natAbs : Nat) : Int) := by
  have h1 : 0 < Nat.gcd m.natAbs v.natAbs := Nat.gcd_pos_of_pos_left _ (by omega)
  have h2 : Nat.gcd m.natAbs v.natAbs ≤ m.natAbs := Nat.le_of_dvd (by omega) (Nat.gcd_dvd_left _ _)
  exact ⟨by omega, by unfold Bd at *; rw [Int.natAbs_natCast]; omega⟩
theorem dvG {k : Nat} {d : Int} {x : Int} (h0 : d ≠ 0) (h : Bd k d) (h1 : 0 < k) (h2 : k ≤ 9000) : CDivG x d := ⟨h0, by have := lg_lt h h1; omega⟩
theorem dvg {i j : Int} (h : j ≠ 0) (b : Bd 9000 j) : CDivG i j := dvG h b (by decide) (by decide)
def pr_form_value (T : Tx K mg) : Pr := fun ds B k e => ∃ (f : Int × Int) (p : P3), ds = [t2 f.1 f.2, plp T p] ∧ Bd 40000 f.1 ∧ Bd 40000 f.2 ∧ Bd 40000 p.1 ∧ Bd 40000 p.2.1 ∧ k (.int (fvF f p)) B
theorem okD_form_value (T : Tx K mg) : FnOk P w K mg base (L2.CX P w) 1 T.a_form_value T.d_form_value P_form_value (spD K (pr_form_value T)) := by
  refine T.F_form_value.okX sc_form_value (spD_len fun ds B k e h => by obtain ⟨⟨a, b⟩, ⟨x, y, c⟩, rfl, ha, hb, hx, hy, hk⟩ := h; rfl) (fun cdv A outer s H vs Q E hr h => ?_)
  obtain ⟨G, ds, B, k, e, hs, hR, ⟨⟨a, b⟩, ⟨x, y, c⟩, rfl, ha, hb, hx, hy, hk⟩, hK, hX⟩ := h
  refine ⟨_, (pss_one (ps_ret (pe_op op_add (pe_op op_mulW (pe_ix ix_tup (pv 0) pe_int (fun _ _ => rfl)) (pe_fld (pv 1) rfl)) (pe_op op_mulW (pe_ix ix_tup (pv 0) pe_int (fun _ _ => rfl)) (pe_fld (pv 1) rfl))))), run_body (ρ := [some (t2 a b), some (pl T x y c)]) hs hR hK hX rfl ?_⟩
  have ha : Bd 40000 a := ha
  have hb : Bd 40000 b := hb
  have hx : Bd 40000 x := hx
  have hy : Bd 40000 y := hy
  refine (ws_ret (we_op (we_op (we_op (we_var rfl (we_int (ro_ixT rfl (we_fx T (we_var rfl ⟨_, _, _, rfl, (ro_i (cmc (by apply Bd.mono; (repeat (first | assumption | exact Bd.lit 64 (by decide +kernel) | exact Bd.lit 2000 (by decide +kernel) | apply Bd.neg | apply Bd.fdiv | apply Bd.mul | apply Bd.add2 | apply Bd.sub2)); decide) (by apply Bd.mono; (repeat (first | assumption | exact Bd.lit 64 (by decide +kernel) | exact Bd.lit 2000 (by decide +kernel) | apply Bd.neg | apply Bd.fdiv | apply Bd.mul | apply Bd.add2 | apply Bd.sub2)); decide)) (we_op (we_op (we_var rfl (we_int (ro_ixT rfl (we_fy T (we_var rfl ⟨_, _, _, rfl, (ro_i (cmc (by apply Bd.mono; (repeat (first | assumption | exact Bd.lit 64 (by decide +kernel) | exact Bd.lit 2000 (by decide +kernel) | apply Bd.neg | apply Bd.fdiv | apply Bd.mul | apply Bd.add2 | apply Bd.sub2)); decide) (by apply Bd.mono; (repeat (first | assumption | exact Bd.lit 64 (by decide +kernel) | exact Bd.lit 2000 (by decide +kernel) | apply Bd.neg | apply Bd.fdiv | apply Bd.mul | apply Bd.add2 | apply Bd.sub2)); decide)) (ro_i0 ?_))⟩))))))))⟩)))))))))
  exact hk
end
end AW

set_option linter.all false
set_option maxRecDepth 100000
set_option maxHeartbeats 8000000
namespace AW
open PySem PySem.Spec PyProof.Rows L2 LamX Tbl
variable [Tbs]
section
variable {P : Program} {w : World} {K : PySem.W.Frag} {mg : Str → Option Value} {base : Heap}
abbrev trD (l : Bz.Tr) : D := t3 l.a l.b l.r
theorem wi_bd {k : Nat} {f s : Int} {l h : Bz.Tr} (I : Bz.WI f s l h) (hf : Bd k f) (hs : Bd k s) : Bd (k + 2) l.a ∧ Bd (k + 2) l.b ∧ Bd (k + 2) l.r ∧ Bd (k + 2) h.a ∧ Bd (k + 2) h.b ∧ Bd (k + 2) h.r := by
  have b := I.bd
  unfold Bd at *
  have e : (2 : Nat) ^ (k + 2) = 4 * 2 ^ k := by rw [Nat.pow_add] <;> omega
  rw [e]
  generalize (2 : Nat) ^ k = N at *
  omega
def subD (t : Int) : D → D → D
  | .int a, .int b => .int (a - t * b)
  | _, _ => .non
def pr_bezout (T : Tx K mg) : Pr := fun ds B k e => ∃ f s : Int, ds = [.int f, .int s] ∧ Bd 8000 f ∧ Bd 8000 s ∧ ∀ a b : Int, a * f + b * s = (Nat.gcd f.natAbs s.natAbs : Int) → (∀ m, Bd m f → Bd m s → Bd (m + 2) a ∧ Bd (m + 2) b) → k (t2 a b) B
theorem okD_bezout (T : Tx K mg) : FnOk P w K mg base (L2.CX P w) 1 T.a_bezout T.d_bezout P_bezout (spD K (pr_bezout T)) := by
  refine T.F_bezout.okX sc_bezout (spD_len fun ds B k e h => by obtain ⟨f, s1, rfl, hf, hs1, hk⟩ := h; rfl) (fun cdv A outer s H vs Q E hr h => ?_)
  obtain ⟨G, ds, B, k, e, hs, hR, ⟨f, s1, rfl, hf, hs1, hk⟩, hK, hX⟩ := h
  refine ⟨_, (pss_cons (ps_par (i := 2) (j := 3) (by rfl) sc_bezout.nd rfl rfl (by decide) rfl rfl (pa_cons (pe_tup (pa_cons pe_int (pa_cons pe_int (pa_cons (pv 0) pa_nil)))) (pa_cons (pe_tup (pa_cons pe_int (pa_cons pe_int (pa_cons (pv 1) pa_nil)))) pa_nil)) (by rfl))
 (pss_cons (ps_while (passes_of rfl) (pt_cmpR op_ne (pe_ix ix_tup (pv 3) pe_int (fun _ _ => rfl)) pe_int (nomark _))
 (pss_cons (ps_set (i := 4) sc_bezout.nd rfl (.inr rfl) (pe_op op_fdivG (pe_ix ix_tup (pv 2) pe_int (fun _ _ => rfl)) (pe_ix ix_tup (pv 3) pe_int (fun _ _ => rfl))))
 (pss_one (ps_par (i := 2) (j := 3) (by rfl) sc_bezout.nd rfl rfl (by decide) rfl rfl (pa_cons (pv 3) (pa_cons (pe_callTy call_tuple_of (by rfl) T.n_tuple (by decide +kernel) (pa_cons (pe_lc (own := [("one", 5), ("other", 6)]) (g := gTup K 2 (gCons (gName 5) (gCons (gName 6) gNil))) (by rfl) sc_bezout.nd (RZ.pi_zipA (by rfl) T.n_zip (pa_cons (pv 2) (pa_cons (pv 3) pa_nil))) (blkOk_by (own := [("one", 5), ("other", 6)]) (N := N_bezout) (sc := defScope s_bezout) (by decide +kernel)) (fun _ _ _ _ _ => pg_tup rfl (pgs_cons (pg_name (i := 5) sc_bezout.nd rfl (Or.inl rfl)) (pgs_cons (pg_name (i := 6) sc_bezout.nd rfl (Or.inl rfl)) pgs_nil))) (fun _ _ _ _ _ => pts_nil) (fun _ _ _ _ _ => (pe_op op_sub (pv 5) (pe_op op_mulW (pv 4) (pv 6))))) pa_nil)) pa_nil)) (by rfl)))))
 (pss_cons (ps_if (pt_cmpR op_lt (pe_ix ix_tup (pv 2) pe_int (fun _ _ => rfl)) pe_int (nomark _))
 (pss_one (ps_ret (pe_tup (pa_cons (pe_un un_neg (pe_ix ix_tup (pv 2) pe_int (fun _ _ => rfl))) (pa_cons (pe_un un_neg (pe_ix ix_tup (pv 2) pe_int (fun _ _ => rfl))) pa_nil)))))
 pss_nil)
 (pss_one (ps_ret (pe_tup (pa_cons (pe_ix ix_tup (pv 2) pe_int (fun _ _ => rfl)) (pa_cons (pe_ix ix_tup (pv 2) pe_int (fun _ _ => rfl)) pa_nil)))))))), run_body (ρ := [some (.int f), some (.int s1), none, none, none, none, none]) hs hR hK hX rfl ?_⟩
  refine ws_seq (ws_par (wa_cons (we_tup (wa_cons (we_int (wa_cons (we_int (wa_cons (we_var rfl (wa_nil ⟨Nat.le_of_ble_eq_true rfl, (wa_cons (we_tup (wa_cons (we_int (wa_cons (we_int (wa_cons (we_var rfl (wa_nil ⟨Nat.le_of_ble_eq_true rfl, (wa_nil ⟨_, _, rfl, ?_⟩)⟩)))))))))⟩))))))))))
  refine ws_cut (fun ρ' B' => (∃ l h o1, ρ' = [some (.int f), some (.int s1), some (trD l), some (trD h), o1, none, none] ∧ Bz.WI f s1 l h ∧ h.r = 0) ∧ B = B') ?_ ?_
  · refine ws_while (fun n ρ' B' => (∃ l h o1, ρ' = [some (.int f), some (.int s1), some (trD l), some (trD h), o1, none, none] ∧ Bz.WI f s1 l h ∧ h.r.natAbs = n) ∧ B = B') s1.natAbs ⟨⟨⟨1, 0, f⟩, ⟨0, 1, s1⟩, none, rfl, .inl ⟨rfl, rfl⟩, rfl⟩, rfl⟩ ?_
    rintro n ρ' B' ⟨⟨l, h, o1, rfl, I, hn⟩, rfl⟩
    obtain ⟨bla, blb, blr, bha, bhb, bhr⟩ := wi_bd I hf hs1
    refine wt_test (we_op (we_op (we_var rfl (we_int (ro_ixT rfl (we_int (ro_neI ⟨_, rfl, fun h1 => ?_, fun h1 => ?_⟩)))))))
    · have nz := ne_of_dec h1
      have bt : Bd 8002 (l.r.fdiv h.r) := blr.fdiv
      refine ws_seq (ws_set (we_op (we_op (we_var rfl (we_int (ro_ixT rfl (we_op (we_var rfl (we_int (ro_ixT rfl (ro_i (dvg (by assumption) (by apply Bd.mono; (repeat (first | assumption | exact Bd.lit 64 (by decide +kernel) | exact Bd.lit 2000 (by decide +kernel) | apply Bd.neg | apply Bd.fdiv | apply Bd.mul | apply Bd.add2 | apply Bd.sub2)); decide)) ?_)))))))))))
      refine ws_par <| wa_cons <| we_var rfl <| wa_cons <| we_tupleL <| wa_cons <| we_lc_zipT (E1 := E0) (by decide) <| wa_cons <| we_var rfl <| wa_cons <| we_var rfl <| wa_nil ⟨_, _, rfl, rfl, (by show 3 < sizeLine; decide), subD (l.r.fdiv h.r), fun n x y hx hy k' hk' => ?_, wa_nil ⟨_, rfl, wa_nil ⟨_, _, rfl, ?_⟩⟩⟩
      · rcases n with _ | _ | _ | n
        · cases hx; cases hy
          exact we_op (we_var rfl (we_op (we_var rfl (we_var rfl (ro_i (cmc (by apply Bd.mono; (repeat (first | assumption | exact Bd.lit 64 (by decide +kernel) | exact Bd.lit 2000 (by decide +kernel) | apply Bd.neg | apply Bd.fdiv | apply Bd.mul | apply Bd.add2 | apply Bd.sub2)); decide) (by apply Bd.mono; (repeat (first | assumption | exact Bd.lit 64 (by decide +kernel) | exact Bd.lit 2000 (by decide +kernel) | apply Bd.neg | apply Bd.fdiv | apply Bd.mul | apply Bd.add2 | apply Bd.sub2)); decide)) (ro_i0 hk'))))))
        · cases hx; cases hy
          exact we_op (we_var rfl (we_op (we_var rfl (we_var rfl (ro_i (cmc (by apply Bd.mono; (repeat (first | assumption | exact Bd.lit 64 (by decide +kernel) | exact Bd.lit 2000 (by decide +kernel) | apply Bd.neg | apply Bd.fdiv | apply Bd.mul | apply Bd.add2 | apply Bd.sub2)); decide) (by apply Bd.mono; (repeat (first | assumption | exact Bd.lit 64 (by decide +kernel) | exact Bd.lit 2000 (by decide +kernel) | apply Bd.neg | apply Bd.fdiv | apply Bd.mul | apply Bd.add2 | apply Bd.sub2)); decide)) (ro_i0 hk'))))))
        · cases hx; cases hy
          exact we_op (we_var rfl (we_op (we_var rfl (we_var rfl (ro_i (cmc (by apply Bd.mono; (repeat (first | assumption | exact Bd.lit 64 (by decide +kernel) | exact Bd.lit 2000 (by decide +kernel) | apply Bd.neg | apply Bd.fdiv | apply Bd.mul | apply Bd.add2 | apply Bd.sub2)); decide) (by apply Bd.mono; (repeat (first | assumption | exact Bd.lit 64 (by decide +kernel) | exact Bd.lit 2000 (by decide +kernel) | apply Bd.neg | apply Bd.fdiv | apply Bd.mul | apply Bd.add2 | apply Bd.sub2)); decide)) (ro_i0 hk'))))))
        · cases hx
      · have I2 := I.step nz
        exact ⟨_, by rw [← hn]; exact I2.lt, ⟨h, Bz.stp l h, _, rfl, .inr I2, rfl⟩, rfl⟩
    · exact ⟨⟨l, h, o1, rfl, I, eq_of_dec h1⟩, rfl⟩
  rintro _ _ ⟨⟨l, h, o1, rfl, I, hz⟩, rfl⟩
  obtain ⟨bla, blb, blr, bha, bhb, bhr⟩ := wi_bd I hf hs1
  obtain ⟨q1, q2⟩ := I.out hz
  refine ws_seq (ws_if (wt_test (we_op (we_op (we_var rfl (we_int (ro_ixT rfl (we_int (ro_b0 ⟨_, rfl, ⟨fun hc1 => ?_, fun hc2 => ?_⟩⟩)))))))))
  · refine (ws_ret (we_tup (wa_cons (we_neg (we_op (we_var rfl (we_int (ro_ixT rfl ⟨_, rfl, (wa_cons (we_neg (we_op (we_var rfl (we_int (ro_ixT rfl ⟨_, rfl, (wa_nil ⟨Nat.le_of_ble_eq_true rfl, ?_⟩)⟩))))))⟩))))))))
    exact hk _ _ (q1 (of_decide_eq_true hc1)) fun m u v => ⟨(wi_bd I u v).1.neg, (wi_bd I u v).2.1.neg⟩
  · refine ws_next ?_
    refine (ws_ret (we_tup (wa_cons (we_op (we_var rfl (we_int (ro_ixT rfl (wa_cons (we_op (we_var rfl (we_int (ro_ixT rfl (wa_nil ⟨Nat.le_of_ble_eq_true rfl, ?_⟩)))))))))))))
    exact hk _ _ (q2 (of_decide_eq_false hc2)) fun m u v => ⟨(wi_bd I u v).1, (wi_bd I u v).2.1⟩
end
end AW

set_option linter.all false
set_option maxRecDepth 100000
set_option maxHeartbeats 8000000
namespace AW
open PySem PySem.Spec PyProof.Rows L2 LamX Tbl
variable [Tbs]
section
variable {P : Program} {w : World} {K : PySem.W.Frag} {mg : Str → Option Value} {base : Heap}
/-- a table whose numbers have at most so many bits -/
structure Tb (n : Nat) (L : List P3) (c : Int) : Prop where
  led : Led L c
  sz : ∀ r ∈ L, SzP n r
  bc : Bd n c
theorem Tb.mono {n m : Nat} {L : List P3} {c : Int} (h : Tb n L c) (hm : n ≤ m) : Tb m L c := ⟨h.led, fun r hr => (h.sz r hr).mono hm, h.bc.mono hm⟩
theorem Tb.tbs {n : Nat} {L : List P3} {c : Int} (h : Tb n L c) (hn : n ≤ 8999) : TbS L c := ⟨h.led, fun r hr => ⟨(h.sz r hr).mono (by omega), (h.sz r hr).1.mono hn, (h.sz r hr).2.1.mono hn⟩, h.bc.mono hn⟩
abbrev leD (T : Tx K mg) (L : List P3) : D := .tup (L.map (plp T))
abbrev foD (f : Int × Int) (m : Int) : D := .tup [t2 f.1 f.2, .int m]
def pr_ledge_forms (T : Tx K mg) : Pr := fun ds B k e => ∃ (n : Nat) (L : List P3) (c : Int), ds = [leD T L] ∧ Tb n L c ∧ n ≤ 4000 ∧ ∀ f1 m1 f2 m2, FoOk L f1 m1 f2 m2 → Bd (n + 2) f1.1 → Bd (n + 2) f1.2 → Bd n m1 → Bd (n + 2) f2.1 → Bd (n + 2) f2.2 → Bd (n + n) m2 → k (.tup [foD f1 m1, foD f2 m2]) B
theorem okD_ledge_forms (T : Tx K mg) : FnOk P w K mg base (L2.CX P w) 2 T.a_ledge_forms T.d_ledge_forms P_ledge_forms (spD K (pr_ledge_forms T)) := by
  refine T.F_ledge_forms.okX sc_ledge_forms (spD_len fun ds B k e h => by obtain ⟨n, L, c, rfl, hT, hn, hk⟩ := h; rfl) (fun cdv A outer s H vs Q E hr h => ?_)
  have G_bezout : FnOk P w K mg base (L2.CX P w) 1 _ _ _ _ := okD_bezout T
  obtain ⟨G, ds, B, k, e, hs, hR, ⟨n, L, c, rfl, hT, hn, hk⟩, hK, hX⟩ := h
  refine ⟨_, (pss_cons (ps_if (pt_cmpR op_eq (pe_callB call_len_seq (by rfl) T.n_len (by decide +kernel) (pa_cons (pv 0) pa_nil)) pe_int (nomark _))
 (pss_one (ps_ret (pe_tup (pa_cons (pe_tup (pa_cons (pe_tup (pa_cons pe_int (pa_cons pe_int pa_nil))) (pa_cons pe_int pa_nil))) (pa_cons (pe_tup (pa_cons (pe_tup (pa_cons pe_int (pa_cons pe_int pa_nil))) (pa_cons pe_int pa_nil))) pa_nil)))))
 pss_nil)
 (pss_cons (ps_set (i := 1) sc_ledge_forms.nd rfl (.inl rfl) (pe_ix ix_tup (pv 0) pe_int (fun _ _ => rfl)))
 (pss_cons (ps_if (pt_cmpR op_eq (pe_callB call_len_seq (by rfl) T.n_len (by decide +kernel) (pa_cons (pv 0) pa_nil)) pe_int (nomark _))
 (pss_one (ps_ret (pe_tup (pa_cons (pe_tup (pa_cons (pe_tup (pa_cons (pe_fld (pv 1) rfl) (pa_cons (pe_un un_neg (pe_fld (pv 1) rfl)) pa_nil))) (pa_cons pe_int pa_nil))) (pa_cons (pe_tup (pa_cons (pe_call G_bezout (hr.mono (by decide)) (by rfl) T.g_bezout T.F_bezout.kp T.b_bezout .nil passL (pa_cons (pe_fld (pv 1) rfl) (pa_cons (pe_fld (pv 1) rfl) pa_nil))) (pa_cons (pe_callBfun cr_gcd (by rfl) T.mi_gcd (pa_cons (pe_fld (pv 1) rfl) (pa_cons (pe_fld (pv 1) rfl) pa_nil))) pa_nil))) pa_nil)))))
 pss_nil)
 (pss_cons (ps_set (i := 2) sc_ledge_forms.nd rfl (.inl rfl) (pe_ix ix_tup (pv 0) pe_int (fun _ _ => rfl)))
 (pss_one (ps_ret (pe_tup (pa_cons (pe_tup (pa_cons (pe_tup (pa_cons pe_int (pa_cons pe_int pa_nil))) (pa_cons (pe_fld (pv 1) rfl) pa_nil))) (pa_cons (pe_tup (pa_cons (pe_tup (pa_cons (pe_un un_neg (pe_fld (pv 1) rfl)) (pa_cons (pe_fld (pv 1) rfl) pa_nil))) (pa_cons (pe_op op_mulW (pe_fld (pv 1) rfl) (pe_fld (pv 2) rfl)) pa_nil))) pa_nil))))))))), run_body (ρ := [some (leD T L), none, none]) hs hR hK hX rfl ?_⟩
  have z2 : 2 ≤ sizeLine := by decide
  have hB : n ≤ BIG := Nat.le_trans hn (by decide)
  have b1 : Bd (n + 2) 1 := (bd1 (by omega)).1
  have hsz := hT.sz
  refine ws_seq <| ws_if <| wt_test <| we_op <| we_lenT <| wa_cons <| we_var rfl <| wa_nil ⟨_, rfl, we_int <| ro_eqI ⟨_, rfl, fun h => ?_, fun h => ws_next ?_⟩⟩
  · have h := of_decide_eq_true h
    rw [List.length_map] at h
    have e : L = [] := List.eq_nil_of_length_eq_zero (by omega)
    subst e
    exact ws_ret <| we_tup <| wa_cons <| we_tup <| wa_cons <| we_tup <| wa_cons <| we_int <| wa_cons <| we_int <| wa_nil ⟨z2, wa_cons <| we_int <| wa_nil ⟨z2, wa_cons <| we_tup <| wa_cons <| we_tup <| wa_cons <| we_int <| wa_cons <| we_int <| wa_nil ⟨z2, wa_cons <| we_int <| wa_nil ⟨z2, wa_nil ⟨z2, hk (1, 0) 0 (0, 1) 0 fo_0 b1 bdz bdz bdz b1 bdz⟩⟩⟩⟩⟩
  have h := of_decide_eq_false h
  rw [List.length_map] at h
  rcases hT.led.2.2 with rfl | ⟨r, rfl, hr⟩ | ⟨r, s', rfl, sx, rp, sp, _⟩
  · exact absurd rfl h
  · obtain ⟨s1, s2, s3⟩ := hsz r (List.mem_cons_self ..)
    refine ws_seq <| ws_set <| we_op <| we_var rfl <| we_int <| ro_ixT (d := plp T r) rfl ?_
    refine ws_seq <| ws_if <| wt_test <| we_op <| we_lenT <| wa_cons <| we_var rfl <| wa_nil ⟨_, rfl, we_int <| ro_eqI ⟨_, rfl, fun h => ?_, fun h => absurd h (by simp)⟩⟩
    refine ws_ret <| we_tup <| wa_cons <| we_tup <| wa_cons <| we_tup <| wa_cons <| we_fy T <| we_var rfl ⟨_, _, _, rfl, wa_cons <| we_neg <| we_fx T <| we_var rfl ⟨_, _, _, rfl, _, rfl, wa_nil ⟨z2, wa_cons <| we_int <| wa_nil ⟨z2, wa_cons <| we_tup <| wa_cons <| we_call <| wa_cons <| we_fx T <| we_var rfl ⟨_, _, _, rfl, wa_cons <| we_fy T <| we_var rfl ⟨_, _, _, rfl, wa_nil ⟨r.1, r.2.1, rfl, s1.mono (by omega), s2.mono (by omega), fun a b hab hb => wa_cons <| we_gcd <| wa_cons <| we_fx T <| we_var rfl ⟨_, _, _, rfl, wa_cons <| we_fy T <| we_var rfl ⟨_, _, _, rfl, wa_nil ⟨_, _, rfl, wa_nil ⟨z2, wa_nil ⟨z2, ?_⟩⟩⟩⟩⟩⟩⟩⟩⟩⟩⟩⟩
    have bg : Bd n ((Nat.gcd r.1.natAbs r.2.1.natAbs : Nat) : Int) := by
      rcases hr with z | ⟨z, z'⟩
      · exact (gcd_bd (by omega) s1).2
      · rw [Nat.gcd_comm]; exact (gcd_bd (by omega) s2).2
    obtain ⟨ba, bb⟩ := hb n s1 s2
    exact hk (r.2.1, -r.1) 0 (a, b) _ (fo_1 hr hab) (s2.mono (by omega)) (s1.neg.mono (by omega)) bdz ba bb (bg.mono (by omega))
  · obtain ⟨s1, s2, s3⟩ := hsz r (List.mem_cons_self ..)
    obtain ⟨u1, u2, u3⟩ := hsz s' (List.mem_cons_of_mem _ (List.mem_cons_self ..))
    refine ws_seq <| ws_set <| we_op <| we_var rfl <| we_int <| ro_ixT (d := plp T r) rfl ?_
    refine ws_seq <| ws_if <| wt_test <| we_op <| we_lenT <| wa_cons <| we_var rfl <| wa_nil ⟨_, rfl, we_int <| ro_eqI ⟨_, rfl, (fun h => absurd h (show ¬ decide ((2 : Int) = 1) = true by decide)), fun _ => ws_next ?_⟩⟩
    refine ws_seq <| ws_set <| we_op <| we_var rfl <| we_int <| ro_ixT (d := plp T s') rfl ?_
    exact ws_ret <| we_tup <| wa_cons <| we_tup <| wa_cons <| we_tup <| wa_cons <| we_int <| wa_cons <| we_int <| wa_nil ⟨z2, wa_cons <| we_fx T <| we_var rfl ⟨_, _, _, rfl, wa_nil ⟨z2, wa_cons <| we_tup <| wa_cons <| we_tup <| wa_cons <| we_neg <| we_fy T <| we_var rfl ⟨_, _, _, rfl, _, rfl, wa_cons <| we_fx T <| we_var rfl ⟨_, _, _, rfl, wa_nil ⟨z2, wa_cons <| we_op <| we_fx T <| we_var rfl ⟨_, _, _, rfl, we_fy T <| we_var rfl ⟨_, _, _, rfl, ro_i (cmc (s1.mono hB) (u2.mono hB)) <| wa_nil ⟨z2, wa_nil ⟨z2, hk (1, 0) r.1 (-r.2.1, r.1) _ (fo_2 sx rp sp) b1 bdz s1 (s2.neg.mono (by omega)) (s1.mono (by omega)) (Bd.mul s1 u2)⟩⟩⟩⟩⟩⟩⟩⟩⟩⟩
def pr_failed_form (T : Tx K mg) : Pr := fun ds B k e => ∃ (n : Nat) (L : List P3) (c : Int) (p : P3), ds = [leD T L, plp T p] ∧ Tb n L c ∧ n ≤ 4000 ∧ Bd 40000 p.1 ∧ Bd 40000 p.2.1 ∧ (EndOk L p → k .non B) ∧ (¬ EndOk L p → ∀ f m, (∀ q, EndOk L q → m ∣ fvF f q) → 0 ≤ m → ¬ m ∣ fvF f p → Bd (n + 2) f.1 → Bd (n + 2) f.2 → Bd (n + n) m → k (foD f m) B)
theorem okD_failed_form (T : Tx K mg) : FnOk P w K mg base (L2.CX P w) 3 T.a_failed_form T.d_failed_form P_failed_form (spD K (pr_failed_form T)) := by
  refine T.F_failed_form.okX sc_failed_form (spD_len fun ds B k e h => by obtain ⟨n, L, c, p, rfl, hT, hn, b1, b2, k1, k2⟩ := h; rfl) (fun cdv A outer s H vs Q E hr h => ?_)
  have G_form_value : FnOk P w K mg base (L2.CX P w) 1 _ _ _ _ := okD_form_value T
  have G_is_multiple : FnOk P w K mg base (L2.CX P w) 1 _ _ _ _ := okD_is_multiple T
  have G_ledge_forms : FnOk P w K mg base (L2.CX P w) 2 _ _ _ _ := okD_ledge_forms T
  obtain ⟨G, ds, B, k, e, hs, hR, ⟨n, L, c, p, rfl, hT, hn, b1, b2, k1, k2⟩, hK, hX⟩ := h
  refine ⟨_, (pss_cons (ps_for (passes_of rfl) rfl (pi_tup (pe_call G_ledge_forms (hr.mono (by decide)) (by rfl) T.g_ledge_forms T.F_ledge_forms.kp T.b_ledge_forms .nil passL (pa_cons (pv 0) pa_nil))) (pg_tup rfl (pgs_cons (pg_name (i := 2) sc_failed_form.nd rfl (.inl rfl)) (pgs_cons (pg_name (i := 3) sc_failed_form.nd rfl (.inl rfl)) pgs_nil)))
 (pss_one (ps_if (pt_not (pt_val (pe_call G_is_multiple (hr.mono (by decide)) (by rfl) T.g_is_multiple T.F_is_multiple.kp T.b_is_multiple .nil passL (pa_cons (pe_call G_form_value (hr.mono (by decide)) (by rfl) T.g_form_value T.F_form_value.kp T.b_form_value .nil passL (pa_cons (pv 2) (pa_cons (pv 1) pa_nil))) (pa_cons (pv 3) pa_nil)))))
 (pss_one (ps_ret (pe_tup (pa_cons (pv 2) (pa_cons (pv 3) pa_nil)))))
 pss_nil)))
 (pss_one (ps_ret pe_non))), run_body (ρ := [some (leD T L), some (plp T p), none, none]) hs hR hK hX rfl ?_⟩
  have z2 : 2 ≤ sizeLine := by decide
  refine ws_cut (fun ρ' B' => EndOk L p ∧ B = B') ?_ ?_
  · refine ws_for_tup <| we_call <| wa_cons <| we_var rfl <| wa_nil ⟨n, L, c, rfl, hT, hn, fun f1 m1 f2 m2 hF c1 c2 c3 c4 c5 c6 => ⟨_, rfl, fun i ρ' B' => (∃ o2 o3, ρ' = [some (leD T L), some (plp T p), o2, o3]) ∧ (0 < i → m1 ∣ fvF f1 p) ∧ (1 < i → m2 ∣ fvF f2 p) ∧ B = B', ⟨⟨none, none, rfl⟩, (fun h => absurd h (Nat.lt_irrefl 0)), (fun h => absurd h (Nat.not_lt_zero 1)), rfl⟩, fun i x ρ' B' hi hI => ?_, fun ρ' B' hI => ?_⟩⟩
    · obtain ⟨⟨o2, o3, rfl⟩, i0, i1, rfl⟩ := hI
      rcases i with _ | _ | i
      · cases hi
        refine wg_tup rfl <| wgs_cons <| wg_name <| wgs_cons <| wg_name <| wgs_nil ?_
        refine ws_if <| wt_not <| wt_val <| we_call <| wa_cons <| we_call <| wa_cons <| we_var rfl <| wa_cons <| we_var rfl <| wa_nil ⟨f1, p, rfl, c1.mono (by omega), c2.mono (by omega), b1, b2, wa_cons <| we_var rfl <| wa_nil ⟨_, _, rfl, _, rfl, fun h => ?_, fun h => ?_⟩⟩
        · have h := ndec h
          exact ws_ret <| we_tup <| wa_cons <| we_var rfl <| wa_cons <| we_var rfl <| wa_nil ⟨z2, k2 (fun z => h ((hF.iff p).mp z).1) f1 m1 (fun q hq => ((hF.iff q).mp hq).1) hF.p1 h c1 c2 (c3.mono (by omega))⟩
        · have h := ydec h
          exact ws_next ⟨⟨_, _, rfl⟩, fun _ => h, (fun h => absurd h (by omega)), rfl⟩
      · cases hi
        refine wg_tup rfl <| wgs_cons <| wg_name <| wgs_cons <| wg_name <| wgs_nil ?_
        refine ws_if <| wt_not <| wt_val <| we_call <| wa_cons <| we_call <| wa_cons <| we_var rfl <| wa_cons <| we_var rfl <| wa_nil ⟨f2, p, rfl, c4.mono (by omega), c5.mono (by omega), b1, b2, wa_cons <| we_var rfl <| wa_nil ⟨_, _, rfl, _, rfl, fun h => ?_, fun h => ?_⟩⟩
        · have h := ndec h
          exact ws_ret <| we_tup <| wa_cons <| we_var rfl <| wa_cons <| we_var rfl <| wa_nil ⟨z2, k2 (fun z => h ((hF.iff p).mp z).2) f2 m2 (fun q hq => ((hF.iff q).mp hq).2) hF.p2 h c4 c5 c6⟩
        · have h := ydec h
          exact ws_next ⟨⟨_, _, rfl⟩, (fun _ => i0 (by omega)), fun _ => h, rfl⟩
      · cases hi
    · obtain ⟨⟨o2, o3, rfl⟩, i0, i1, rfl⟩ := hI
      exact ⟨(hF.iff p).mpr ⟨i0 (Nat.succ_pos _), i1 (Nat.lt_succ_self _)⟩, rfl⟩
  rintro _ _ ⟨hE, rfl⟩
  exact ws_ret <| we_non <| k1 hE
end
end AW

set_option linter.all false
set_option maxRecDepth 100000
set_option maxHeartbeats 8000000
namespace AW
open PySem PySem.Spec PyProof.Rows L2 LamX Tbl
variable [Tbs]
section
variable {P : Program} {w : World} {K : PySem.W.Frag} {mg : Str → Option Value} {base : Heap}
theorem ep_bd {n M : Nat} {L : List P3} {c : Int} (hT : Tb n L c) {p : P3} (b1 : Bd M p.1) (b2 : Bd M p.2.1) : ∀ t ∈ epL L p, Bd (M + n + 1) t := by
  have hsz := hT.sz
  rcases hT.led.2.2 with rfl | ⟨r, rfl, hr⟩ | ⟨r, s, rfl, sx, rp, sp, _⟩
  · intro t ht; cases ht
  · intro t ht
    rw [show epL [r] p = [if 0 < r.1 then p.1.fdiv r.1 else p.2.1.fdiv r.2.1] from rfl, List.mem_singleton] at ht
    subst ht
    split
    · exact b1.fdiv.mono (by omega)
    · exact b2.fdiv.mono (by omega)
  · obtain ⟨s1, s2, s3⟩ := hsz r (List.mem_cons_self ..)
    intro t ht
    rw [show epL [r, s] p = [p.1.fdiv r.1, (p.2.1 - p.1.fdiv r.1 * r.2.1).fdiv s.2.1] from rfl] at ht
    simp only [List.mem_cons, List.not_mem_nil, or_false] at ht
    rcases ht with rfl | rfl
    · exact b1.fdiv.mono (by omega)
    · exact (Bd.sub (b2.mono (by omega)) (Bd.mul b1.fdiv s2)).fdiv
def pr_end_powers (T : Tx K mg) : Pr := fun ds B k e => ∃ (n M : Nat) (L : List P3) (c : Int) (p : P3), ds = [leD T L, plp T p] ∧ Tb n L c ∧ n ≤ 4000 ∧ M ≤ 40000 ∧ Bd M p.1 ∧ Bd M p.2.1 ∧ k (.lst ((epL L p).map D.int)) B
theorem okD_end_powers (T : Tx K mg) : FnOk P w K mg base (L2.CX P w) 1 T.a_end_powers T.d_end_powers P_end_powers (spD K (pr_end_powers T)) := by
  refine T.F_end_powers.okX sc_end_powers (spD_len fun ds B k e h => by obtain ⟨n, M, L, c, p, rfl, hT, hn, hM, b1, b2, hk⟩ := h; rfl) (fun cdv A outer s H vs Q E hr h => ?_)
  obtain ⟨G, ds, B, k, e, hs, hR, ⟨n, M, L, c, p, rfl, hT, hn, hM, b1, b2, hk⟩, hK, hX⟩ := h
  refine ⟨_, (pss_cons (ps_if (pt_cmpR op_eq (pe_callB call_len_seq (by rfl) T.n_len (by decide +kernel) (pa_cons (pv 0) pa_nil)) pe_int (nomark _))
 (pss_one (ps_ret (pe_lst pa_nil)))
 pss_nil)
 (pss_cons (ps_set (i := 2) sc_end_powers.nd rfl (.inl rfl) (pe_ix ix_tup (pv 0) pe_int (fun _ _ => rfl)))
 (pss_cons (ps_if (pt_cmpR op_eq (pe_callB call_len_seq (by rfl) T.n_len (by decide +kernel) (pa_cons (pv 0) pa_nil)) pe_int (nomark _))
 (pss_one (ps_ret (pe_lst (pa_cons (pe_ifExp (pt_cmpR op_gt (pe_fld (pv 2) rfl) pe_int (nomark _)) (pe_op op_fdivG (pe_fld (pv 1) rfl) (pe_fld (pv 2) rfl)) (pe_op op_fdivG (pe_fld (pv 1) rfl) (pe_fld (pv 2) rfl))) pa_nil))))
 pss_nil)
 (pss_cons (ps_set (i := 3) sc_end_powers.nd rfl (.inl rfl) (pe_op op_fdivG (pe_fld (pv 1) rfl) (pe_fld (pv 2) rfl)))
 (pss_one (ps_ret (pe_lst (pa_cons (pv 3) (pa_cons (pe_op op_fdivG (pe_op op_sub (pe_fld (pv 1) rfl) (pe_op op_mulW (pv 3) (pe_fld (pv 2) rfl))) (pe_fld (pe_ix ix_tup (pv 0) pe_int (fun _ _ => rfl)) rfl)) pa_nil))))))))), run_body (ρ := [some (leD T L), some (plp T p), none, none]) hs hR hK hX rfl ?_⟩
  have z2 : 2 ≤ sizeLine := by decide
  have hsz := hT.sz
  refine ws_seq <| ws_if <| wt_test <| we_op <| we_lenT <| wa_cons <| we_var rfl <| wa_nil ⟨_, rfl, we_int <| ro_eqI ⟨_, rfl, fun h => ?_, fun h => ws_next ?_⟩⟩
  · have h := of_decide_eq_true h
    rw [List.length_map] at h
    have e : L = [] := List.eq_nil_of_length_eq_zero (by omega)
    subst e
    exact ws_ret <| we_lst <| wa_nil ⟨Nat.zero_le _, hk⟩
  have h := of_decide_eq_false h
  rw [List.length_map] at h
  rcases hT.led.2.2 with rfl | ⟨r, rfl, hr⟩ | ⟨r, s', rfl, sx, rp, sp, _⟩
  · exact absurd rfl h
  · obtain ⟨s1, s2, s3⟩ := hsz r (List.mem_cons_self ..)
    have hk : k (.lst [.int (if 0 < r.1 then p.1.fdiv r.1 else p.2.1.fdiv r.2.1)]) B := hk
    refine ws_seq <| ws_set <| we_op <| we_var rfl <| we_int <| ro_ixT (d := plp T r) rfl ?_
    refine ws_seq <| ws_if <| wt_test <| we_op <| we_lenT <| wa_cons <| we_var rfl <| wa_nil ⟨_, rfl, we_int <| ro_eqI ⟨_, rfl, fun h => ?_, fun h => absurd h (by simp)⟩⟩
    refine ws_ret <| we_lst <| wa_cons <| we_ifE <| wt_test <| we_op <| we_fx T <| we_var rfl ⟨_, _, _, rfl, we_int <| ro_b0 ⟨_, rfl, fun h => ?_, fun h => ?_⟩⟩
    · have h := of_decide_eq_true h
      rw [if_pos h] at hk
      exact we_op <| we_fx T <| we_var rfl ⟨_, _, _, rfl, we_fx T <| we_var rfl ⟨_, _, _, rfl, ro_i (dvG (k := 4001) (by omega) (s1.mono (by omega)) (by decide) (by decide)) <| wa_nil ⟨Nat.le_of_ble_eq_true rfl, hk⟩⟩⟩
    · have h := of_decide_eq_false h
      rw [if_neg h] at hk
      exact we_op <| we_fy T <| we_var rfl ⟨_, _, _, rfl, we_fy T <| we_var rfl ⟨_, _, _, rfl, ro_i (dvG (k := 4001) (by omega) (s2.mono (by omega)) (by decide) (by decide)) <| wa_nil ⟨Nat.le_of_ble_eq_true rfl, hk⟩⟩⟩
  · obtain ⟨s1, s2, s3⟩ := hsz r (List.mem_cons_self ..)
    obtain ⟨u1, u2, u3⟩ := hsz s' (List.mem_cons_of_mem _ (List.mem_cons_self ..))
    refine ws_seq <| ws_set <| we_op <| we_var rfl <| we_int <| ro_ixT (d := plp T r) rfl ?_
    refine ws_seq <| ws_if <| wt_test <| we_op <| we_lenT <| wa_cons <| we_var rfl <| wa_nil ⟨_, rfl, we_int <| ro_eqI ⟨_, rfl, (fun h => absurd h (show ¬ decide ((2 : Int) = 1) = true by decide)), fun _ => ws_next ?_⟩⟩
    refine ws_seq <| ws_set <| we_op <| we_fx T <| we_var rfl ⟨_, _, _, rfl, we_fx T <| we_var rfl ⟨_, _, _, rfl, ro_i (dvG (k := 4001) (by omega) (s1.mono (by omega)) (by decide) (by decide)) ?_⟩⟩
    exact ws_ret <| we_lst <| wa_cons <| we_var rfl <| wa_cons <| we_op <| we_op <| we_fy T <| we_var rfl ⟨_, _, _, rfl, we_op <| we_var rfl <| we_fy T <| we_var rfl ⟨_, _, _, rfl, ro_i (cmc (b1.fdiv.mono (Nat.le_trans hM (by decide))) (s2.mono (Nat.le_trans hn (by decide)))) <| ro_i0 <| we_fy T <| we_op <| we_var rfl <| we_int <| ro_ixT (d := plp T s') rfl ⟨_, _, _, rfl, ro_i (dvG (k := 4001) (by omega) (u2.mono (by omega)) (by decide) (by decide)) <| wa_nil ⟨Nat.le_of_ble_eq_true rfl, hk⟩⟩⟩⟩
theorem take_lp {L : List P3} {ns : List Int} {i : Nat} {r : P3} {n : Int} (h1 : L[i]? = some r) (h2 : ns[i]? = some n) : lpF (L.take (i + 1)) (ns.take (i + 1)) = mu (lpF (L.take i) (ns.take i)) (pw r n) := by
  unfold lpF
  rw [← List.take_zipWith, ← List.take_zipWith, List.take_add_one, List.foldl_append]
  have : (List.zipWith pw L ns)[i]? = some (pw r n) := by rw [List.getElem?_zipWith, h1, h2]
  rw [this]
  rfl
def pr_ledge_product (T : Tx K mg) : Pr := fun ds B k e => ∃ (b : Bool) (L : List P3) (ns : List Int), ds = [seqD b (L.map (plp T)), .lst (ns.map D.int)] ∧ L.length = ns.length ∧ L.length ≤ 2 ∧ (∀ r ∈ L, SzP 4500 r) ∧ (∀ n ∈ ns, Bd 50000 n) ∧ k (plp T (lpF L ns)) B
theorem okD_ledge_product (T : Tx K mg) : FnOk P w K mg base (L2.CX P w) 7 T.a_ledge_product T.d_ledge_product P_ledge_product (spD K (pr_ledge_product T)) := by
  refine T.F_ledge_product.okX sc_ledge_product (spD_len fun ds B k e h => by obtain ⟨b, L, ns, rfl, hl, hl2, hsz, hns, hk⟩ := h; rfl) (fun cdv A outer s H vs Q E hr h => ?_)
  have G_Place_mul : FnOk P w K mg base (L2.CX P w) 6 _ _ _ _ := okD_Place_mul T
  have G_Place_power : FnOk P w K mg base (L2.CX P w) 6 _ _ _ _ := okD_Place_power T
  have G_home_place : FnOk P w K mg base (L2.CX P w) 6 _ _ _ _ := okD_home_place T
  obtain ⟨G, ds, B, k, e, hs, hR, ⟨b, L, ns, rfl, hl, hl2, hsz, hns, hk⟩, hK, hX⟩ := h
  refine ⟨_, (pss_cons (ps_set (i := 2) sc_ledge_product.nd rfl (.inl rfl) (pe_call0 G_home_place (hr.mono (by decide)) (by rfl) T.g_home_place T.F_home_place.kp T.b_home_place .nil passL))
 (pss_cons (ps_for (passes_of rfl) rfl (pi_zipM (by rfl) T.n_zip (pa_cons (pv 0) (pa_cons (pv 1) pa_nil))) (pg_tup rfl (pgs_cons (pg_name (i := 3) sc_ledge_product.nd rfl (.inl rfl)) (pgs_cons (pg_name (i := 4) sc_ledge_product.nd rfl (.inl rfl)) pgs_nil)))
 (pss_one (ps_set (i := 2) sc_ledge_product.nd rfl (.inl rfl) (pe_op (op_ownO T.O_Place_Mult G_Place_mul (hr.mono (by decide)) T.b_Place_mul passL) (pv 2) (pe_meth (pv 3) T.cl_Place T.M_Place_power G_Place_power (hr.mono (by decide)) T.b_Place_power .nil passL (pa_cons (pv 4) pa_nil))))))
 (pss_one (ps_ret (pv 2))))), run_body (ρ := [some (seqD b (L.map (plp T))), some (.lst (ns.map D.int)), none, none, none]) hs hR hK hX rfl ?_⟩
  refine ws_seq <| ws_set <| we_call0 ⟨rfl, ?_⟩
  refine ws_cut (fun ρ' B' => (∃ o1 o2, ρ' = [some (seqD b (L.map (plp T))), some (.lst (ns.map D.int)), some (plp T (lpF L ns)), o1, o2]) ∧ B = B') ?_ ?_
  · have I0 : (∃ o1 o2 : Option D, [some (seqD b (L.map (plp T))), some (.lst (ns.map D.int)), some (plp T e0), none, none] = [some (seqD b (L.map (plp T))), some (.lst (ns.map D.int)), some (plp T (lpF (L.take 0) (ns.take 0))), o1, o2] ∧ Bd (55000 * 0 + 50000) (lpF (L.take 0) (ns.take 0)).1) ∧ B = B := ⟨⟨none, none, rfl, bdz⟩, rfl⟩
    have step : ∀ (i : Nat) (x y : D) (ρ' : List (Option D)) (B' : Int), (L.map (plp T))[i]? = some x → (ns.map D.int)[i]? = some y → ((∃ o1 o2 : Option D, ρ' = [some (seqD b (L.map (plp T))), some (.lst (ns.map D.int)), some (plp T (lpF (L.take i) (ns.take i))), o1, o2] ∧ Bd (55000 * i + 50000) (lpF (L.take i) (ns.take i)).1) ∧ B = B') → ∃ (r : P3) (n : Int), x = plp T r ∧ y = .int n ∧ lpF (L.take (i + 1)) (ns.take (i + 1)) = mu (lpF (L.take i) (ns.take i)) (pw r n) ∧ SzP 60000 r ∧ Bd 60000 n ∧ CMulW (lpF (L.take i) (ns.take i)).1 (pw r n).2.1 ∧ Bd (55000 * (i + 1) + 50000) (mu (lpF (L.take i) (ns.take i)) (pw r n)).1 := fun i x y ρ' B' hx hy hI => by
      obtain ⟨r, hr, rfl⟩ := at_map hx
      obtain ⟨n, hn, rfl⟩ := at_map hy
      obtain ⟨⟨o1, o2, _, bx⟩, _⟩ := hI
      have hi := (List.getElem?_eq_some_iff.mp hr).1
      obtain ⟨s1, s2, s3⟩ := hsz r (List.mem_of_getElem? hr)
      have bn := hns n (List.mem_of_getElem? hn)
      refine ⟨r, n, rfl, rfl, take_lp hr hn, ⟨s1.mono (by decide), s2.mono (by decide), s3.mono (by decide)⟩, bn.mono (by decide), cmc (bx.mono (show 55000 * i + 50000 ≤ 400000 by omega)) ((Bd.mul bn s2).mono (by decide)), ?_⟩
      exact Bd.mono (Bd.add (bx.mono (show _ ≤ 55000 * i + 54999 by omega)) ((Bd.mul bn s1).mono (show _ ≤ 55000 * i + 54999 by omega))) (by omega)
    have fin : ∀ (ρ' : List (Option D)) (B' : Int), ((∃ o1 o2 : Option D, ρ' = [some (seqD b (L.map (plp T))), some (.lst (ns.map D.int)), some (plp T (lpF (L.take (L.map (plp T)).length) (ns.take (L.map (plp T)).length))), o1, o2] ∧ Bd (55000 * (L.map (plp T)).length + 50000) (lpF (L.take (L.map (plp T)).length) (ns.take (L.map (plp T)).length)).1) ∧ B = B') → (∃ o1 o2 : Option D, ρ' = [some (seqD b (L.map (plp T))), some (.lst (ns.map D.int)), some (plp T (lpF L ns)), o1, o2]) ∧ B = B' := fun ρ' B' ⟨⟨o1, o2, h, _⟩, h2⟩ => by
      rw [List.length_map, List.take_length] at h
      rw [show ns.take L.length = ns by rw [hl, List.take_length]] at h
      exact ⟨⟨o1, o2, h⟩, h2⟩
    cases b with
    | true =>
      refine ws_for_zipM <| wa_cons <| we_var rfl <| wa_cons <| we_var rfl <| wa_nil ⟨_, _, rfl, by rw [List.length_map, List.length_map, hl], fun i ρ' B' => (∃ o1 o2 : Option D, ρ' = [some (seqD true (L.map (plp T))), some (.lst (ns.map D.int)), some (plp T (lpF (L.take i) (ns.take i))), o1, o2] ∧ Bd (55000 * i + 50000) (lpF (L.take i) (ns.take i)).1) ∧ B = B', I0, fun i x y ρ' B' hx hy hI => ?_, fun ρ' B' hI => fin ρ' B' hI⟩
      obtain ⟨r, n, rfl, rfl, e1, sr, bn, cm, bd⟩ := step i x y ρ' B' hx hy hI
      obtain ⟨⟨o1, o2, rfl, bx⟩, rfl⟩ := hI
      refine wg_tup rfl <| wgs_cons <| wg_name <| wgs_cons <| wg_name <| wgs_nil ?_
      exact ws_set <| we_op <| we_var rfl <| we_meth <| we_var rfl ⟨_, _, rfl, by decide +kernel, wa_cons <| we_var rfl <| wa_nil ⟨r, n, rfl, sr, bn, ro_ownP T cm ⟨⟨_, _, by rw [e1]; rfl, by rw [e1]; exact bd⟩, rfl⟩⟩⟩
    | false =>
      refine ws_for_zipML <| wa_cons <| we_var rfl <| wa_cons <| we_var rfl <| wa_nil ⟨_, _, rfl, by rw [List.length_map, List.length_map, hl], fun i ρ' B' => (∃ o1 o2 : Option D, ρ' = [some (seqD false (L.map (plp T))), some (.lst (ns.map D.int)), some (plp T (lpF (L.take i) (ns.take i))), o1, o2] ∧ Bd (55000 * i + 50000) (lpF (L.take i) (ns.take i)).1) ∧ B = B', I0, fun i x y ρ' B' hx hy hI => ?_, fun ρ' B' hI => fin ρ' B' hI⟩
      obtain ⟨r, n, rfl, rfl, e1, sr, bn, cm, bd⟩ := step i x y ρ' B' hx hy hI
      obtain ⟨⟨o1, o2, rfl, bx⟩, rfl⟩ := hI
      refine wg_tup rfl <| wgs_cons <| wg_name <| wgs_cons <| wg_name <| wgs_nil ?_
      exact ws_set <| we_op <| we_var rfl <| we_meth <| we_var rfl ⟨_, _, rfl, by decide +kernel, wa_cons <| we_var rfl <| wa_nil ⟨r, n, rfl, sr, bn, ro_ownP T cm ⟨⟨_, _, by rw [e1]; rfl, by rw [e1]; exact bd⟩, rfl⟩⟩⟩
  rintro _ _ ⟨⟨o1, o2, rfl⟩, rfl⟩
  exact ws_ret <| we_var rfl hk
def pr_height_over (T : Tx K mg) : Pr := fun ds B k e => ∃ (n M : Nat) (L : List P3) (c : Int) (p : P3), ds = [leD T L, plp T p] ∧ Tb n L c ∧ n ≤ 4000 ∧ M ≤ 40000 ∧ Bd M p.1 ∧ Bd M p.2.1 ∧ k (.int (htL L p)) B
theorem okD_height_over (T : Tx K mg) : FnOk P w K mg base (L2.CX P w) 8 T.a_height_over T.d_height_over P_height_over (spD K (pr_height_over T)) := by
  refine T.F_height_over.okX sc_height_over (spD_len fun ds B k e h => by obtain ⟨n, M, L, c, p, rfl, hT, hn, hM, b1, b2, hk⟩ := h; rfl) (fun cdv A outer s H vs Q E hr h => ?_)
  have G_end_powers : FnOk P w K mg base (L2.CX P w) 1 _ _ _ _ := okD_end_powers T
  have G_ledge_product : FnOk P w K mg base (L2.CX P w) 7 _ _ _ _ := okD_ledge_product T
  obtain ⟨G, ds, B, k, e, hs, hR, ⟨n, M, L, c, p, rfl, hT, hn, hM, b1, b2, hk⟩, hK, hX⟩ := h
  refine ⟨_, (pss_one (ps_ret (pe_op op_sub (pe_fld (pv 1) rfl) (pe_fld (pe_call G_ledge_product (hr.mono (by decide)) (by rfl) T.g_ledge_product T.F_ledge_product.kp T.b_ledge_product .nil passL (pa_cons (pv 0) (pa_cons (pe_call G_end_powers (hr.mono (by decide)) (by rfl) T.g_end_powers T.F_end_powers.kp T.b_end_powers .nil passL (pa_cons (pv 0) (pa_cons (pv 1) pa_nil))) pa_nil))) rfl)))), run_body (ρ := [some (leD T L), some (plp T p)]) hs hR hK hX rfl ?_⟩
  exact ws_ret <| we_op <| we_fa T <| we_var rfl ⟨_, _, _, rfl, we_fa T <| we_call <| wa_cons <| we_var rfl <| wa_cons <| we_call <| wa_cons <| we_var rfl <| wa_cons <| we_var rfl <| wa_nil ⟨n, M, L, c, p, rfl, hT, hn, hM, b1, b2, wa_nil ⟨true, L, epL L p, rfl, (ep_len hT.led p).symm, led_len hT.led, fun r hr => (hT.sz r hr).mono (by omega), fun t ht => (ep_bd hT b1 b2 t ht).mono (by omega), ⟨_, _, _, rfl, ro_i0 hk⟩⟩⟩⟩
def pr_is_made (T : Tx K mg) : Pr := fun ds B k e => ∃ (n M : Nat) (L : List P3) (c : Int) (p : P3), ds = [leD T L, .int c, plp T p] ∧ Tb n L c ∧ n ≤ 4000 ∧ M ≤ 40000 ∧ Bd M p.1 ∧ Bd M p.2.1 ∧ ∀ b : Bool, (b = true ↔ InT L c p) → k (.bl b) B
theorem okD_is_made (T : Tx K mg) : FnOk P w K mg base (L2.CX P w) 9 T.a_is_made T.d_is_made P_is_made (spD K (pr_is_made T)) := by
  refine T.F_is_made.okX sc_is_made (spD_len fun ds B k e h => by obtain ⟨n, M, L, c, p, rfl, hT, hn, hM, b1, b2, hk⟩ := h; rfl) (fun cdv A outer s H vs Q E hr h => ?_)
  have G_failed_form : FnOk P w K mg base (L2.CX P w) 3 _ _ _ _ := okD_failed_form T
  have G_height_over : FnOk P w K mg base (L2.CX P w) 8 _ _ _ _ := okD_height_over T
  have G_is_multiple : FnOk P w K mg base (L2.CX P w) 1 _ _ _ _ := okD_is_multiple T
  obtain ⟨G, ds, B, k, e, hs, hR, ⟨n, M, L, c, p, rfl, hT, hn, hM, b1, b2, hk⟩, hK, hX⟩ := h
  refine ⟨_, (pss_one (ps_ret (pe_and (pe_cmp (pc_isN (pe_call G_failed_form (hr.mono (by decide)) (by rfl) T.g_failed_form T.F_failed_form.kp T.b_failed_form .nil passL (pa_cons (pv 0) (pa_cons (pv 2) pa_nil)))) rfl) (pe_one (pe_call G_is_multiple (hr.mono (by decide)) (by rfl) T.g_is_multiple T.F_is_multiple.kp T.b_is_multiple .nil passL (pa_cons (pe_call G_height_over (hr.mono (by decide)) (by rfl) T.g_height_over T.F_height_over.kp T.b_height_over .nil passL (pa_cons (pv 0) (pa_cons (pv 2) pa_nil))) (pa_cons (pv 1) pa_nil))))))), run_body (ρ := [some (leD T L), some (.int c), some (plp T p)]) hs hR hK hX rfl ?_⟩
  refine ws_ret <| we_and <| we_isN <| we_call <| wa_cons <| we_var rfl <| wa_cons <| we_var rfl <| wa_nil ⟨n, L, c, p, rfl, hT, hn, b1.mono hM, b2.mono hM, fun hE => ⟨_, rfl, (fun _ => ?_), fun h => nomatch h⟩, fun hE f m _ _ _ _ _ _ => ⟨_, rfl, (fun h => nomatch h), fun _ => hk false ⟨(fun h => nomatch h), fun h => absurd (int_endok hT.led h) hE⟩⟩⟩
  refine we_call <| wa_cons <| we_call <| wa_cons <| we_var rfl <| wa_cons <| we_var rfl <| wa_nil ⟨n, M, L, c, p, rfl, hT, hn, hM, b1, b2, wa_cons <| we_var rfl <| wa_nil ⟨_, _, rfl, hk _ ?_⟩⟩
  rw [int_ht hT.led hE]
  exact ⟨of_decide_eq_true, decide_eq_true⟩
def pr_Table_contains (T : Tx K mg) : Pr := fun ds B k e => ∃ (n M : Nat) (told L : List P3) (c : Int) (ls : List (Nat × Int × Nat)) (mids : List Nat) (p : P3), ds = [tbD T told L c ls mids, plp T p] ∧ Tb n L c ∧ n ≤ 4000 ∧ M ≤ 40000 ∧ Bd M p.1 ∧ Bd M p.2.1 ∧ ∀ b : Bool, (b = true ↔ InT L c p) → k (.bl b) B
theorem okD_Table_contains (T : Tx K mg) : FnOk P w K mg base (L2.CX P w) 10 T.a_Table_contains T.d_Table_contains P_Table_contains (spD K (pr_Table_contains T)) := by
  refine T.F_Table_contains.okX sc_Table_contains (spD_len fun ds B k e h => by obtain ⟨n, M, told, L, c, ls, mids, p, rfl, hT, hn, hM, b1, b2, hk⟩ := h; rfl) (fun cdv A outer s H vs Q E hr h => ?_)
  have G_check_place : FnOk P w K mg base (L2.CX P w) _ _ _ _ _ := okD_check_place T
  have G_is_made : FnOk P w K mg base (L2.CX P w) 9 _ _ _ _ := okD_is_made T
  obtain ⟨G, ds, B, k, e, hs, hR, ⟨n, M, told, L, c, ls, mids, p, rfl, hT, hn, hM, b1, b2, hk⟩, hK, hX⟩ := h
  refine ⟨_, (pss_cons (ps_expr (pe_call G_check_place (hr.mono (by decide)) (by rfl) T.g_check_place T.F_check_place.kp T.b_check_place .nil passL (pa_cons (pv 1) pa_nil)))
 (pss_one (ps_ret (pe_call G_is_made (hr.mono (by decide)) (by rfl) T.g_is_made T.F_is_made.kp T.b_is_made .nil passL (pa_cons (pe_fld (pv 0) rfl) (pa_cons (pe_fld (pv 0) rfl) (pa_cons (pv 1) pa_nil))))))), run_body (ρ := [some (tbD T told L c ls mids), some (plp T p)]) hs hR hK hX rfl ?_⟩
  refine ws_seq <| ws_drop <| we_call <| wa_cons <| we_var rfl <| wa_nil ⟨_, rfl, .inl ⟨_, _, _, rfl, ?_⟩⟩
  exact ws_ret <| we_call <| wa_cons <| tb_fld T rfl T.na_Table_ledge rfl <| wa_cons <| tb_fld T rfl T.na_Table_home rfl <| wa_cons <| we_var rfl <| wa_nil ⟨n, M, L, c, p, rfl, hT, hn, hM, b1, b2, hk⟩
end
end AW

set_option linter.all false
set_option maxRecDepth 100000
set_option maxHeartbeats 8000000
namespace AW
open PySem PySem.Spec PyProof.Rows L2 LamX Tbl
variable [Tbs]
section
variable {P : Program} {w : World} {K : PySem.W.Frag} {mg : Str → Option Value} {base : Heap}
end
end AW

set_option linter.all false
set_option maxRecDepth 100000
set_option maxHeartbeats 8000000
namespace AW
open PySem PySem.Spec PyProof.Rows L2 LamX Tbl
variable [Tbs]
section
variable {P : Program} {w : World} {K : PySem.W.Frag} {mg : Str → Option Value} {base : Heap}
def plR (T : Tx K mg) : Addr → Addr → Hp → Bool → Prop := fun p q H b => ∃ x y a x' y' a', PlAt T H p x y a ∧ PlAt T H q x' y' a' ∧ b = decide (x = x' ∧ y = y' ∧ a = a')
theorem plAt_ext (T : Tx K mg) {H H' : Hp} {p : Addr} {x y a : Int} (e : L2.Ext H H') (h : PlAt T H p x y a) : PlAt T H' p x y a := let ⟨dx, hp⟩ := h; ⟨dx, e _ _ hp⟩
theorem ok_Place_eqB (T : Tx K mg) : FnOk P w K mg base (L2.CX P w) 1 T.a_Place_eq T.d_Place_eq P_Place_eq (spEqB (plR T)) :=
  (ok_Place_eq T).imp fun vs H Q E ⟨p, q, b, ev, ⟨x, y, a, x', y', a', hp, hq, eb⟩, hQ⟩ => by
    subst ev eb
    exact ⟨p, .ref q, x, y, a, rfl, hp, .inl ⟨q, x', y', a', rfl, hq, hQ H L2.Ext.rfl'⟩⟩
theorem monB_pl (T : Tx K mg) : MonB (InsB T.C_Place (plR T)) := monB_ins fun p q H H' b e ⟨x, y, a, x', y', a', h1, h2, h3⟩ => ⟨x, y, a, x', y', a', plAt_ext T e h1, plAt_ext T e h2, h3⟩
theorem insB_ref (T : Tx K mg) : ∀ x y H b, InsB T.C_Place (plR T) x y H b → ∃ p q, x = .ref p ∧ y = .ref q := fun x y H b ⟨p, q, _, _, _, _, hx, hy, _⟩ => ⟨p, q, hx, hy⟩
theorem plAt_inj (T : Tx K mg) {H : Hp} {p : Addr} {x y a x' y' a' : Int} (h1 : PlAt T H p x y a) (h2 : PlAt T H p x' y' a') : x = x' ∧ y = y' ∧ a = a' := by
  obtain ⟨dx, h1⟩ := h1
  obtain ⟨dy, h2⟩ := h2
  rw [h1] at h2
  cases h2
  exact ⟨rfl, rfl, rfl⟩
theorem insB_self (T : Tx K mg) : ∀ p H b, InsB T.C_Place (plR T) (.ref p) (.ref p) H b → b = true := fun p H b ⟨p1, q1, _, _, _, _, hx, hy, _, _, x, y, a, x', y', a', h1, h2, eb⟩ => by
  injection hx with hx
  injection hy with hy
  subst hx
  subst hy
  rw [eb]
  exact decide_eq_true (plAt_inj T h1 h2)
theorem says_eq {L M : List P3} {b : Bool} {c : Nat → Bool} (hc : ∀ i p q, L[i]? = some p → M[i]? = some q → c i = decide (p = q)) (h : RB.Says L.length M.length c b) : b = decide (L = M) := by
  cases b with
  | true =>
    obtain ⟨e1, e2⟩ := h.1 rfl
    symm
    refine decide_eq_true (List.ext_getElem? fun i => ?_)
    rcases Nat.lt_or_ge i L.length with z | z
    · have h1 := List.getElem?_eq_getElem z
      have h2 := List.getElem?_eq_getElem (show i < M.length by omega)
      have h3 := e2 i z
      rw [hc i _ _ h1 h2] at h3
      rw [h1, h2, of_decide_eq_true h3]
    · rw [List.getElem?_eq_none z, List.getElem?_eq_none (by omega)]
  | false =>
    symm
    refine decide_eq_false fun z => ?_
    subst z
    rcases h.2 rfl with h | ⟨j, j1, j2, h⟩
    · exact h rfl
    · have h1 := List.getElem?_eq_getElem j1
      rw [hc j _ _ h1 h1, decide_eq_true rfl] at h
      cases h
theorem ro_eqPl (T : Tx K mg) {E : XK} {e : EW} {B : Int} {k : KD} {L M : List P3} (hk : k (.bl (decide (L = M))) B) : Ro K E e (rEqB (TupB K (InsB T.C_Place (plR T)))) (leD T L) (leD T M) B k := fun x y H G Q s r1 r2 _ q => by
  obtain ⟨p, us, rfl, hp, hr⟩ := r1
  obtain ⟨p', us', rfl, hp', hr'⟩ := r2
  have sq : ∀ {z : Addr} {zs : List V}, SqT K G z zs → SqT K H z zs := fun h => (Le.of_sub (B := B) (B' := B) s (Int.le_refl _)).seqT h
  have key : ∀ (i : Nat) (u v : V), us[i]? = some u → us'[i]? = some v → ∃ a b : P3, L[i]? = some a ∧ M[i]? = some b ∧ InsB T.C_Place (plR T) u v H (decide (a = b)) := fun i u v hu hv => by
    obtain ⟨d, hd, rd⟩ := hr.get' hu
    obtain ⟨d', hd', rd'⟩ := hr'.get' hv
    obtain ⟨a, ha, rfl⟩ := at_map hd
    obtain ⟨b, hb, rfl⟩ := at_map hd'
    obtain ⟨pa, rfl, dx, ga⟩ := rd.pl
    obtain ⟨pb, rfl, dy, gb⟩ := rd'.pl
    refine ⟨a, b, ha, hb, pa, pb, _, _, _, _, rfl, rfl, s _ _ ga, s _ _ gb, _, _, _, _, _, _, ⟨dx, s _ _ ga⟩, ⟨dy, s _ _ gb⟩, ?_⟩
    exact decide_eq_decide.mpr ⟨fun h => by rw [h]; exact ⟨rfl, rfl, rfl⟩, fun ⟨h1, h2, h3⟩ => p3_ext h1 h2 h3⟩
  have l1 : us.length = L.length := by rw [← hr.length, List.length_map]
  have l2 : us'.length = M.length := by rw [← hr'.length, List.length_map]
  let c : Nat → Bool := fun i => match L[i]?, M[i]? with
    | some a, some b => decide (a = b)
    | _, _ => true
  have hc : ∀ i p q, L[i]? = some p → M[i]? = some q → c i = decide (p = q) := fun i p q h1 h2 => by
    show (match L[i]?, M[i]? with | some a, some b => decide (a = b) | _, _ => true) = _
    rw [h1, h2]
  refine ⟨decide (L = M), ⟨p, p', us, us', c, rfl, rfl, sq hp, sq hp', ⟨fun i u v hu hv => ?_⟩, fun b' hb => says_eq hc (by rw [← l1, ← l2]; exact hb)⟩, fun H' ex => q _ _ _ _ _ hk ⟨Le.refl _ _, fun a o h => ex _ _ (s _ _ h), fun a o h n _ => ⟨ex _ _ h, n⟩⟩ rfl⟩
  obtain ⟨a, b, ha, hb, hi⟩ := key i u v hu hv
  rw [hc i a b ha hb]
  exact hi
def pr_Table_eq (T : Tx K mg) : Pr := fun ds B k e => ∃ (told L told' L' : List P3) (c c' : Int) (ls ls' : List (Nat × Int × Nat)) (mids mids' : List Nat), ds = [tbD T told L c ls mids, tbD T told' L' c' ls' mids'] ∧ k (.bl (decide (L = L' ∧ c = c'))) B
theorem okD_Table_eq (T : Tx K mg) : FnOk P w K mg base (L2.CX P w) 4 T.a_Table_eq T.d_Table_eq P_Table_eq (spD K (pr_Table_eq T)) := by
  refine T.F_Table_eq.okX sc_Table_eq (spD_len fun ds B k e h => by obtain ⟨told, L, told', L', c, c', ls, ls', mids, mids', rfl, hk⟩ := h; rfl) (fun cdv A outer s H vs Q E hr h => ?_)
  obtain ⟨G, ds, B, k, e, hs, hR, ⟨told, L, told', L', c, c', ls, ls', mids, mids', rfl, hk⟩, hK, hX⟩ := h
  refine ⟨_, (pss_one (ps_ret (pe_and (pe_callB call_isi (by rfl) T.n_isinstance (by decide +kernel) (pa_cons (pv 1) (pa_cons (pe_glob (v := .ref T.C_Table) (by rfl) T.g_C_Table rfl) pa_nil))) (pe_and (pe_cmpR (op_eqB (rcB_tup (monB_pl T) ((rcB_ins (ok_Place_eqB T) T.E_Place T.b_Place_eq passL).eqB (insB_ref T) (insB_self T))) (hr.mono (by decide))) (pe_fld (pv 0) rfl) (pe_fld (pv 1) rfl) (nomark _)) (pe_one (pe_cmpR op_eq (pe_fld (pv 0) rfl) (pe_fld (pv 1) rfl) (nomark _))))))), run_body (ρ := [some (tbD T told L c ls mids), some (tbD T told' L' c' ls' mids')]) hs hR hK hX rfl ?_⟩
  refine ws_ret <| we_and <| we_isiC <| we_var rfl ⟨tyD_tb T, kit_self, _, rfl, (fun _ => ?_), fun h => nomatch h⟩
  refine we_and <| we_op <| tb_fld T rfl T.na_Table_ledge rfl <| tb_fld T rfl T.na_Table_ledge rfl <| ro_eqPl T ⟨_, rfl, fun h => ?_, fun h => ?_⟩
  · have h := of_decide_eq_true h
    refine we_op <| tb_fld T rfl T.na_Table_home rfl <| tb_fld T rfl T.na_Table_home rfl <| ro_eqI ?_
    rw [show decide (c = c') = decide (L = L' ∧ c = c') from decide_eq_decide.mpr ⟨fun z => ⟨h, z⟩, fun z => z.2⟩]
    exact hk
  · have h := of_decide_eq_false h
    rw [decide_eq_false (fun z => h z.1)] at hk
    exact hk
end
end AW

set_option linter.all false
set_option maxRecDepth 100000
set_option maxHeartbeats 8000000
namespace AW
open PySem PySem.Spec PyProof.Rows L2 LamX Tbl
variable [Tbs]
section
variable {P : Program} {w : World} {K : PySem.W.Frag} {mg : Str → Option Value} {base : Heap}
theorem made_sz {n m : Nat} {L : List P3} {c : Int} (hT : Tb n L c) (hm : 1 ≤ m) {ns : List Int} {z : Int} (hn : ns.length = L.length) (hns : ∀ x ∈ ns, Bd m x) (hz : Bd m z) : SzP (4 * n + 4 * m + 8) (madeF L ns c z) := by
  have pwk : ∀ r ∈ L, ∀ x ∈ ns, SzP (2 * n + 2 * m + 2) (pw r x) := fun r hr x hx => (hT.sz r hr).pw (hns x hx) hm
  have bz : Bd (n + m) (c * z) := Bd.mul hT.bc hz
  have fin : ∀ p : P3, SzP (4 * n + 4 * m + 7) p → SzP (4 * n + 4 * m + 8) (p.1, p.2.1, p.2.2 + c * z) := fun p ⟨h1, h2, h3⟩ => ⟨h1.mono (by omega), h2.mono (by omega), Bd.add h3 (bz.mono (by omega))⟩
  refine fin (prodF (List.zipWith pw L ns)) ?_
  rcases hT.led.2.2 with rfl | ⟨r, rfl, hr⟩ | ⟨r, s, rfl, sx, rp, sp, _⟩
  · exact SzP.e0
  · match ns, hn with
    | [a], _ =>
      show SzP _ (mu e0 (pw r a))
      rw [e0_mu]
      exact (pwk r (by simp) a (by simp)).mono (by omega)
  · match ns, hn with
    | [a, b], _ =>
      show SzP _ (mu (mu e0 (pw r a)) (pw s b))
      rw [e0_mu]
      exact (SzP.mu (pwk r (by simp) a (by simp)) (pwk s (by simp) b (by simp))).mono (by omega)
/-- the bits of a table's rows, by what it is told -/
theorem tab_tb {told L : List P3} {c : Int} {ls : List (Nat × Int × Nat)} {mids : List Nat} (hT : TabOk told L c ls mids) {n m N : Nat} (hd : ∀ p ∈ told, ab p.1 ≤ 2 ^ n ∧ ab p.2.1 ≤ 2 ^ n ∧ ab (uu p) ≤ 2 ^ m) (hN : 3 * n + 2 ≤ N) (hM : n + m + 1 ≤ N) : Tb (N + 1) L c := by
  have X1 : (1 : Int) ≤ 2 ^ n := by exact_mod_cast Nat.one_le_two_pow
  have M1 : (1 : Int) ≤ 2 ^ m := by exact_mod_cast Nat.one_le_two_pow
  have h := led_sz hT.led hT.ge (X := 2 ^ n) (U := 2 ^ m) X1 (by omega) hd
  have e1 : (2 : Int) ^ n * 2 ^ n = 2 ^ (2 * n) := by rw [← Int.pow_add]; congr 1; omega
  have e2 : (2 : Int) ^ n * 2 ^ n * 2 ^ n = 2 ^ (3 * n) := by rw [e1, ← Int.pow_add]; congr 1; omega
  have e3 : (2 : Int) ^ n * 2 ^ m = 2 ^ (n + m) := by rw [← Int.pow_add]
  have le : ∀ {a b : Nat}, a ≤ b → (2 : Int) ^ a ≤ 2 ^ b := fun h => by exact_mod_cast Nat.pow_le_pow_right (by decide : 0 < 2) h
  have P : ∀ z : Nat, (2 : Int) ^ (z + 1) = 2 ^ z * 2 := fun z => Int.pow_succ ..
  have l1 := le (show n ≤ N by omega)
  have l2 := le (show 2 * n + 1 ≤ N by omega)
  have l3 := le (show 3 * n + 1 + 1 ≤ N by omega)
  have l4 := le (show n + m + 1 ≤ N by omega)
  rw [P] at l2 l4
  rw [P, P] at l3
  have c0 := hT.led.1
  refine ⟨hT.led, fun r hr => ⟨bd_ab (n := N) ?_ (by omega), bd_ab (n := N) ?_ (by omega), bd_ab (n := N) ?_ (by omega)⟩, bd_ab (n := N) ?_ (by omega)⟩
  · have := h.x r hr; omega
  · have := h.y r hr
    rw [e1] at this
    omega
  · have := h.a r hr
    rw [e2, e3] at this
    omega
  · have := h.c
    rw [e2, e3] at this
    unfold Tbl.ab
    omega
end
end AW

set_option linter.all false
set_option maxRecDepth 100000
set_option maxHeartbeats 8000000
namespace AW
open PySem PySem.Spec PyProof.Rows L2 LamX Tbl
variable [Tbs]
section
variable {P : Program} {w : World} {K : PySem.W.Frag} {mg : Str → Option Value} {base : Heap}
end
end AW

set_option linter.all false
set_option maxRecDepth 100000
set_option maxHeartbeats 8000000
namespace AW
open PySem PySem.Spec PyProof.Rows L2 LamX Tbl
variable [Tbs]
section
variable {P : Program} {w : World} {K : PySem.W.Frag} {mg : Str → Option Value} {base : Heap}
def pr_l_brewed (T : Tx K mg) : Pr := fun ds B k e => ∃ (told V : List P3) (ls : List (Nat × Int × Nat)), ds = [.lst (told.map tpD), .tup (ls.map lnD)] ∧ Bw told V ls ∧ V.length ≤ 1000000 ∧ k (.lst (V.map tpD)) B
theorem okD_l_brewed (T : Tx K mg) : FnOk P w K mg base (L2.CX P w) 2 T.a_l_brewed T.d_l_brewed P_l_brewed (spD K (pr_l_brewed T)) := by
  refine T.F_l_brewed.okX sc_l_brewed (spD_len fun ds B k e h => by obtain ⟨told, V, ls, rfl, hw, hV, hk⟩ := h; rfl) (fun cdv A outer s H vs Q E hr h => ?_)
  have G_l_mul : FnOk P w K mg base (L2.CX P w) 1 _ _ _ _ := okD_l_mul T
  have G_l_pow : FnOk P w K mg base (L2.CX P w) 1 _ _ _ _ := okD_l_pow T
  have G_l_whole_is : FnOk P w K mg base (L2.CX P w) 1 _ _ _ _ := okD_l_whole_is T
  obtain ⟨G, ds, B, k, e, hs, hR, ⟨told, V, ls, rfl, hw, hV, hk⟩, hK, hX⟩ := h
  refine ⟨_, (pss_cons (ps_set (i := 2) sc_l_brewed.nd rfl (.inl rfl) (pe_op op_cat (pe_lst (pa_cons (pe_tup (pa_cons pe_int (pa_cons pe_int (pa_cons pe_int pa_nil)))) pa_nil)) (pe_callTy call_list_of (by rfl) T.n_list (by decide +kernel) (pa_cons (pv 0) pa_nil))))
 (pss_cons (ps_for (passes_of rfl) rfl (pi_tup (pv 1)) (pg_name (i := 3) sc_l_brewed.nd rfl (.inl rfl))
 (pss_cons (ps_if (PW.pt (pw_or (pt_not (pt_val (pe_callB call_isiT (by rfl) T.n_isinstance (by decide +kernel) (pa_cons (pv 3) (pa_cons (pe_tup (pa_cons (pe_bltn (v := .ty "tuple") (by rfl) T.n_tuple (by decide +kernel) rfl) (pa_cons (pe_bltn (v := .ty "list") (by rfl) T.n_list (by decide +kernel) rfl) pa_nil))) pa_nil))))) (pw_or (pt_cmpR op_ne (pe_callB call_len_seq (by rfl) T.n_len (by decide +kernel) (pa_cons (pv 3) pa_nil)) pe_int (nomark _)) (pw_or1 (pt_not (pt_val (pe_callB (cr_all rfl) (by rfl) T.n_all (by decide +kernel) (pa_cons (pe_lc (te := (tCall (spD K (pr_l_whole_is T)) [] E0 (tCons (tVar 7) (tCons (tVar 7) tNil)))) (own := [("_law_part", 7)]) (g := gName 7) (by rfl) sc_l_brewed.nd (pi_tup (pv 3)) (blkOk_by (own := [("_law_part", 7)]) (N := N_l_brewed) (sc := defScope s_l_brewed) (by decide +kernel)) (fun _ _ _ _ _ => pg_name (i := 7) sc_l_brewed.nd rfl (Or.inl rfl)) (fun _ _ _ _ _ => pts_nil) (fun _ _ _ _ _ => (pe_call G_l_whole_is (hr.mono (by decide)) (by rfl) T.g_l_whole_is T.F_l_whole_is.kp T.b_l_whole_is .nil passL (pa_cons (pv 7) (pa_cons (pv 7) pa_nil))))) pa_nil))))))))
 (pss_one (ps_ret pe_non))
 pss_nil)
 (pss_cons (ps_asg (pv 3) (pg_tup rfl (pgs_cons (pg_name (i := 4) sc_l_brewed.nd rfl (.inl rfl)) (pgs_cons (pg_name (i := 5) sc_l_brewed.nd rfl (.inl rfl)) (pgs_cons (pg_name (i := 6) sc_l_brewed.nd rfl (.inl rfl)) pgs_nil)))))
 (pss_cons (ps_if (PW.pt (pw_or (pt_not (pt_chain op_le op_lt pe_int (pv 4) (pe_callB call_len_seq (by rfl) T.n_len (by decide +kernel) (pa_cons (pv 2) pa_nil)))) (pw_or1 (pt_not (pt_chain op_le op_lt pe_int (pv 6) (pe_callB call_len_seq (by rfl) T.n_len (by decide +kernel) (pa_cons (pv 2) pa_nil)))))))
 (pss_one (ps_ret pe_non))
 pss_nil)
 (pss_one (ps_expr (pe_bm PySem.F.plainAttrs_list PySem.F.slot_list_append PySem.F.type_list_append mt_append (pv 2) (pa_cons (pe_call G_l_mul (hr.mono (by decide)) (by rfl) T.g_l_mul T.F_l_mul.kp T.b_l_mul .nil passL (pa_cons (pe_ix ix_list (pv 2) (pv 4) (fun _ _ => rfl)) (pa_cons (pe_call G_l_pow (hr.mono (by decide)) (by rfl) T.g_l_pow T.F_l_pow.kp T.b_l_pow .nil passL (pa_cons (pe_ix ix_list (pv 2) (pv 6) (fun _ _ => rfl)) (pa_cons (pv 5) pa_nil))) pa_nil))) pa_nil))))))))
 (pss_one (ps_ret (pv 2))))), run_body (ρ := [some (.lst (told.map tpD)), some (.tup (ls.map lnD)), none, none, none, none, none, none]) hs hR hK hX rfl ?_⟩
  have zL : 1000001 < sizeLine := by decide
  have hlen := hw.len
  refine wx_own <| wx_seq <| wx_catA <| we_lst <| wa_cons <| we_tup <| wa_cons <| we_int <| wa_cons <| we_int <| wa_cons <| we_int <| wa_nil ⟨Nat.le_of_ble_eq_true rfl, wa_nil ⟨Nat.le_of_ble_eq_true rfl, we_listL <| wa_cons <| we_var rfl <| wa_nil ⟨_, rfl, _, _, rfl, rfl, by rw [List.length_map]; show 1 + _ ≤ _; omega, fun p => ?_⟩⟩⟩
  refine wx_cut (fun ρ' O' B' => (∃ o1 o3 o4 o5 o6 o7, ρ' = [some (.lst (told.map tpD)), o1, some (.val (.ref p)), o3, o4, o5, o6, o7]) ∧ O' = [(p, .list (V.map tpD))] ∧ B = B') ?_ ?_
  · refine wx_for_tup (j := 1) rfl fun uu => ⟨fun n ρ' O' B' => (∃ o3 o4 o5 o6 o7, ρ' = [some (.lst (told.map tpD)), some (.at_ uu (.tup (ls.map lnD))), some (.val (.ref p)), o3, o4, o5, o6, o7]) ∧ O' = [(p, .list ((V.take (told.length + 1 + n)).map tpD))] ∧ B = B', ⟨⟨none, none, none, none, none, rfl⟩, ?_, rfl⟩, ?_, fun n d ρ' O' B' hi hI => ?_, fun ρ' O' B' hI => ?_⟩
    · rw [Nat.add_zero, bw_start hw]; rfl
    · rintro n ρ' O' B' ⟨⟨o3, o4, o5, o6, o7, rfl⟩, _, _⟩; rfl
    · obtain ⟨⟨o3, o4, o5, o6, o7, rfl⟩, rfl, rfl⟩ := hI
      obtain ⟨⟨i, m, j⟩, hl, rfl⟩ := at_map hi
      obtain ⟨u, v, hu, hv, su, sv, bm, estep⟩ := bw_step hw n i j m hl
      have hnl : (V.take (told.length + 1 + n)).length ≤ 1000000 := by rw [List.length_take]; omega
      generalize V.take (told.length + 1 + n) = Vn at hu hv estep hnl
      have hi1 := (List.getElem?_eq_some_iff.mp hu).1
      have hj1 := (List.getElem?_eq_some_iff.mp hv).1
      refine wg_name ?_
      refine wx_cut (fun ρ' O' B' => (∃ o7, ρ' = [some (.lst (told.map tpD)), some (.at_ uu (.tup (ls.map lnD))), some (.val (.ref p)), some (lnD (i, m, j)), o4, o5, o6, o7]) ∧ O' = [(p, .list (Vn.map tpD))] ∧ B = B') ?_ ?_
      · refine wx_ws <| ws_if <| wt_or <| wt_not <| wt_val <| we_isiT2 <| we_var rfl ⟨tyD_tup, kit_tl, _, rfl, (fun h => nomatch h), fun _ => wt_or <| wt_test <| we_op <| we_lenT <| wa_cons <| we_var rfl <| wa_nil ⟨_, rfl, we_int <| ro_neI ⟨_, rfl, (fun h => absurd rfl (neD h)), fun _ => ?_⟩⟩⟩
        refine wt_not <| wt_val <| we_all <| wa_cons <| we_lc_tup (E1 := E0) <| we_var rfl ⟨_, rfl, by show 3 < _; omega, fun n out B' => out = (List.replicate n true).map D.bl ∧ B = B', ⟨rfl, rfl⟩, fun n x out B' hx hI => ?_, fun out B' _ hI => ?_⟩
        · obtain ⟨rfl, rfl⟩ := hI
          obtain ⟨z, rfl⟩ : ∃ z : Int, x = .int z := by
            have := List.mem_of_getElem? hx
            simp only [List.mem_cons, List.not_mem_nil, or_false] at this
            rcases this with rfl | rfl | rfl <;> exact ⟨_, rfl⟩
          refine wt_yes ⟨fun _ => we_call <| wa_cons <| we_var rfl <| wa_cons <| we_var rfl <| wa_nil ⟨z, z, rfl, ?_, rfl⟩, fun h => nomatch h⟩
          rw [decide_eq_true rfl, List.replicate_succ', List.map_append]
          rfl
        · obtain ⟨rfl, rfl⟩ := hI
          exact wa_nil ⟨_, rfl, _, rfl, (fun h => nomatch h), fun _ => ws_next ⟨⟨_, rfl⟩, rfl, rfl⟩⟩
      rintro _ _ _ ⟨⟨o7, rfl⟩, rfl, rfl⟩
      refine wx_cut (fun ρ' O' B' => ρ' = [some (.lst (told.map tpD)), some (.at_ uu (.tup (ls.map lnD))), some (.val (.ref p)), some (lnD (i, m, j)), some (.int (i : Nat)), some (.int m), some (.int (j : Nat)), o7] ∧ O' = [(p, .list (Vn.map tpD))] ∧ B = B') ?_ ?_
      · exact wx_ws <| ws_asg <| we_var rfl <| wg_tup rfl <| wgs_cons <| wg_name <| wgs_cons <| wg_name <| wgs_cons <| wg_name <| wgs_nil ⟨rfl, rfl, rfl⟩
      rintro _ _ _ ⟨rfl, rfl, rfl⟩
      refine wx_cut (fun ρ' O' B' => ρ' = [some (.lst (told.map tpD)), some (.at_ uu (.tup (ls.map lnD))), some (.val (.ref p)), some (lnD (i, m, j)), some (.int (i : Nat)), some (.int m), some (.int (j : Nat)), o7] ∧ O' = [(p, .list (Vn.map tpD))] ∧ B = B') ?_ ?_
      · refine wx_if_peek (n := 0) (i := 2) rfl rfl ?_
        have hi2 : (i : Int) < ((Vn.map tpD).length : Nat) := by rw [List.length_map]; omega
        have hj2 : (j : Int) < ((Vn.map tpD).length : Nat) := by rw [List.length_map]; omega
        refine wt_or <| wt_not <| wt_test <| we_chain <| we_int <| we_var rfl <| ro_b0 ⟨_, rfl, (fun _ => we_lenL <| wa_cons <| we_var rfl <| wa_nil ⟨_, rfl, ro_b0 ⟨_, rfl, (fun h => absurd hi2 (by simpa using h)), fun _ => ?_⟩⟩), fun h => absurd (Int.natCast_nonneg i) (of_decide_eq_false h)⟩
        exact wt_not <| wt_test <| we_chain <| we_int <| we_var rfl <| ro_b0 ⟨_, rfl, (fun _ => we_lenL <| wa_cons <| we_var rfl <| wa_nil ⟨_, rfl, ro_b0 ⟨_, rfl, (fun h => absurd hj2 (by simpa using h)), fun _ => wx_next ⟨rfl, rfl, rfl⟩⟩⟩), fun h => absurd (Int.natCast_nonneg j) (of_decide_eq_false h)⟩
      rintro _ _ _ ⟨rfl, rfl, rfl⟩
      have gt : ∀ {a : Nat} {w : P3}, Vn[a]? = some w → atI (Vn.map tpD) (a : Int) = some (tpD w) := fun h => atI_nat (by rw [List.getElem?_map, h]; rfl)
      refine wx_appV <| we_var rfl ⟨p, rfl, ⟨_, List.mem_cons_self ..⟩, wew_callD <| waw_cons <| wew_ixV <| wew_we <| we_var rfl <| wew_we <| we_var rfl ⟨p, 0, _, _, _, rfl, rfl, rfl, gt hu, waw_cons <| wew_callD <| waw_cons <| wew_ixV <| wew_we <| we_var rfl <| wew_we <| we_var rfl ⟨p, 0, _, _, _, rfl, rfl, rfl, gt hv, waw_cons <| wew_we <| we_var rfl <| waw_nil ⟨v, m, rfl, sv, bm, waw_nil ⟨u, pw v m, rfl, cmc (su.1.mono (by decide)) ((Bd.mul bm sv.2.1).mono (by decide)), 0, _, rfl, by rw [List.length_map]; omega, ⟨_, _, _, _, _, rfl⟩, ?_, rfl⟩⟩⟩⟩⟩
      show [(p, OC.list _)] = [(p, OC.list _)]
      rw [estep, List.map_append]; rfl
    · obtain ⟨⟨o3, o4, o5, o6, o7, rfl⟩, rfl, rfl⟩ := hI
      refine ⟨⟨_, _, _, _, _, _, rfl⟩, ?_, rfl⟩
      rw [List.length_map, List.take_of_length_le (by omega)]
  rintro _ _ _ ⟨⟨o1, o3, o4, o5, o6, o7, rfl⟩, rfl, rfl⟩
  exact wx_tell (i := 2) rfl <| wx_ws <| ws_ret <| we_var rfl hk
end
end AW

set_option linter.all false
set_option maxRecDepth 100000
set_option maxHeartbeats 8000000
namespace AW
open PySem PySem.Spec PyProof.Rows L2 LamX Tbl
variable [Tbs]
section
variable {P : Program} {w : World} {K : PySem.W.Frag} {mg : Str → Option Value} {base : Heap}
def pr_l_table_right (T : Tx K mg) : Pr := fun ds B k e => ∃ (told L : List P3) (c : Int) (ls : List (Nat × Int × Nat)) (mids : List Nat), ds = [tbD T told L c ls mids, .lst (told.map tpD)] ∧ TabOk told L c ls mids ∧ (∀ p ∈ told, Bd 40000 p.1 ∧ Bd 40000 p.2.1) ∧ told.length ≤ 8 ∧ k (.bl true) B
theorem okD_l_table_right (T : Tx K mg) : FnOk P w K mg base (L2.CX P w) 4 T.a_l_table_right T.d_l_table_right P_l_table_right (spD K (pr_l_table_right T)) := by
  refine T.F_l_table_right.okX sc_l_table_right (spD_len fun ds B k e h => by obtain ⟨told, L, c, ls, mids, rfl, hT, hbd, ht8, hk⟩ := h; rfl) (fun cdv A outer s H vs Q E hr h => ?_)
  have G_l_brewed : FnOk P w K mg base (L2.CX P w) 2 _ _ _ _ := okD_l_brewed T
  have G_l_figures : FnOk P w K mg base (L2.CX P w) 2 _ _ _ _ := okD_l_figures T
  have G_l_ledge_right : FnOk P w K mg base (L2.CX P w) 2 _ _ _ _ := okD_l_ledge_right T
  have G_l_row : FnOk P w K mg base (L2.CX P w) 1 _ _ _ _ := okD_l_row T
  obtain ⟨G, ds, B, k, e, hs, hR, ⟨told, L, c, ls, mids, rfl, hT, hbd, ht8, hk⟩, hK, hX⟩ := h
  refine ⟨_, (pss_cons (ps_if (PW.pt (pw_or (pt_not (pt_val (pe_callB call_isi (by rfl) T.n_isinstance (by decide +kernel) (pa_cons (pv 0) (pa_cons (pe_glob (v := .ref T.C_Table) (by rfl) T.g_C_Table rfl) pa_nil))))) (pw_or (pt_not (pt_val (pe_callB call_isi (by rfl) T.n_isinstance (by decide +kernel) (pa_cons (pe_fld (pv 0) rfl) (pa_cons (pe_bltn (v := .ty "tuple") (by rfl) T.n_tuple (by decide +kernel) rfl) pa_nil))))) (pw_or1 (pt_not (pt_val (pe_callB call_isi (by rfl) T.n_isinstance (by decide +kernel) (pa_cons (pe_fld (pv 0) rfl) (pa_cons (pe_bltn (v := .ty "tuple") (by rfl) T.n_tuple (by decide +kernel) rfl) pa_nil)))))))))
 (pss_one (ps_ret pe_bl))
 pss_nil)
 (pss_cons (ps_if (PW.pt (pw_or (pt_not (pt_val (pe_callB (cr_all rfl) (by rfl) T.n_all (by decide +kernel) (pa_cons (pe_lc (te := (tCB (rIsi K) (tCons (tVar 6) (tCons (tC (.ref T.C_Place)) tNil)))) (own := [("_law_place_here", 6)]) (g := gName 6) (by rfl) sc_l_table_right.nd (pi_tup (pe_fld (pv 0) rfl)) (blkOk_by (own := [("_law_place_here", 6)]) (N := N_l_table_right) (sc := defScope s_l_table_right) (by decide +kernel)) (fun _ _ _ _ _ => pg_name (i := 6) sc_l_table_right.nd rfl (Or.inl rfl)) (fun _ _ _ _ _ => pts_nil) (fun _ _ _ _ _ => (pe_callB call_isi (by rfl) T.n_isinstance (by decide +kernel) (pa_cons (pv 6) (pa_cons (pe_glob (v := .ref T.C_Place) (by rfl) T.g_C_Place rfl) pa_nil))))) pa_nil)))) (pw_or1 (pt_not (pt_val (pe_callB call_isi (by rfl) T.n_isinstance (by decide +kernel) (pa_cons (pe_fld (pv 0) rfl) (pa_cons (pe_bltn (v := .ty "tuple") (by rfl) T.n_tuple (by decide +kernel) rfl) pa_nil))))))))
 (pss_one (ps_ret pe_bl))
 pss_nil)
 (pss_cons (ps_asg (pe_tup (pa_cons (pe_lc (te := (tCall (spD K (pr_l_row T)) [] E0 (tCons (tVar 6) tNil))) (own := [("_law_place_here", 6)]) (g := gName 6) (by rfl) sc_l_table_right.nd (pi_tup (pe_fld (pv 0) rfl)) (blkOk_by (own := [("_law_place_here", 6)]) (N := N_l_table_right) (sc := defScope s_l_table_right) (by decide +kernel)) (fun _ _ _ _ _ => pg_name (i := 6) sc_l_table_right.nd rfl (Or.inl rfl)) (fun _ _ _ _ _ => pts_nil) (fun _ _ _ _ _ => (pe_call G_l_row (hr.mono (by decide)) (by rfl) T.g_l_row T.F_l_row.kp T.b_l_row .nil passL (pa_cons (pv 6) pa_nil)))) (pa_cons (pe_fld (pv 0) rfl) (pa_cons (pe_call G_l_brewed (hr.mono (by decide)) (by rfl) T.g_l_brewed T.F_l_brewed.kp T.b_l_brewed .nil passL (pa_cons (pv 1) (pa_cons (pe_fld (pv 0) rfl) pa_nil))) pa_nil)))) (pg_tup rfl (pgs_cons (pg_name (i := 2) sc_l_table_right.nd rfl (.inr rfl)) (pgs_cons (pg_name (i := 3) sc_l_table_right.nd rfl (.inr rfl)) (pgs_cons (pg_name (i := 4) sc_l_table_right.nd rfl (.inr rfl)) pgs_nil)))))
 (pss_cons (ps_if (PW.pt (pw_or (pt_not (pt_val (pe_call G_l_ledge_right (hr.mono (by decide)) (by rfl) T.g_l_ledge_right T.F_l_ledge_right.kp T.b_l_ledge_right .nil passL (pa_cons (pv 2) (pa_cons (pv 3) pa_nil))))) (pw_or1 (pt_cmp (pc_isN (pv 4))))))
 (pss_one (ps_ret pe_bl))
 pss_nil)
 (pss_cons (ps_set (i := 5) sc_l_table_right.nd rfl (.inl rfl) (pe_op op_cat (pv 2) (pe_op op_rep (pe_lst (pa_cons (pe_tup (pa_cons pe_int (pa_cons pe_int (pa_cons (pv 3) pa_nil)))) pa_nil)) (pe_callTy call_int1 (by rfl) T.n_int (by decide +kernel) (pa_cons (pe_cmpR op_gt (pv 3) pe_int (nomark _)) pa_nil)))))
 (pss_cons (ps_if (PW.pt (pw_or (pt_cmpR op_ne (pe_callB call_len_seq (by rfl) T.n_len (by decide +kernel) (pa_cons (pe_fld (pv 0) rfl) pa_nil)) (pe_callB call_len_seq (by rfl) T.n_len (by decide +kernel) (pa_cons (pv 5) pa_nil)) (nomark _)) (pw_or1 (pt_not (pt_val (pe_callB (cr_all rfl) (by rfl) T.n_all (by decide +kernel) (pa_cons (pe_lc (te := (tChain (rI0 fun i j => V.bl (decide (i ≤ j))) (rI0 fun i j => V.bl (decide (i < j))) (tC (.int 0)) (tVar 7) (tCB (fun xs H Q => ∃ p ys, xs = [V.ref p] ∧ (SqL K H p ys ∨ SqT K H p ys) ∧ Q (.int ys.length) H) (tCons (tVar 4) tNil)))) (own := [("_law_number_here", 7)]) (g := gName 7) (by rfl) sc_l_table_right.nd (pi_tup (pe_fld (pv 0) rfl)) (blkOk_by (own := [("_law_number_here", 7)]) (N := N_l_table_right) (sc := defScope s_l_table_right) (by decide +kernel)) (fun _ _ _ _ _ => pg_name (i := 7) sc_l_table_right.nd rfl (Or.inl rfl)) (fun _ _ _ _ _ => pts_nil) (fun _ _ _ _ _ => (pe_chain op_le op_lt pe_int (pv 7) (pe_callB call_len_seq (by rfl) T.n_len (by decide +kernel) (pa_cons (pv 4) pa_nil))))) pa_nil)))))))
 (pss_one (ps_ret pe_bl))
 pss_nil)
 (pss_cons (ps_if (pt_cmpR (op_neD hr.units) (pe_lc (te := (tOp (rIxL K) (tVar 4) (tVar 7))) (own := [("_law_number_here", 7)]) (g := gName 7) (by rfl) sc_l_table_right.nd (pi_tup (pe_fld (pv 0) rfl)) (blkOk_by (own := [("_law_number_here", 7)]) (N := N_l_table_right) (sc := defScope s_l_table_right) (by decide +kernel)) (fun _ _ _ _ _ => pg_name (i := 7) sc_l_table_right.nd rfl (Or.inl rfl)) (fun _ _ _ _ _ => pts_nil) (fun _ _ _ _ _ => (pe_ix ix_list (pv 4) (pv 7) (fun _ _ => rfl)))) (pv 5) (nomark _))
 (pss_one (ps_ret pe_bl))
 pss_nil)
 (pss_one (ps_ret (pe_callB (cr_all rfl) (by rfl) T.n_all (by decide +kernel) (pa_cons (pe_lc (te := (tNotN (tCall (spD K (pr_l_figures T)) [] E0 (tCons (tVar 2) (tCons (tVar 3) (tCons (tVar 8) tNil)))))) (own := [("_law_row_here", 8)]) (g := gName 8) (by rfl) sc_l_table_right.nd (pi_list (pv 1)) (blkOk_by (own := [("_law_row_here", 8)]) (N := N_l_table_right) (sc := defScope s_l_table_right) (by decide +kernel)) (fun _ _ _ _ _ => pg_name (i := 8) sc_l_table_right.nd rfl (Or.inl rfl)) (fun _ _ _ _ _ => pts_nil) (fun _ _ _ _ _ => (pe_cmp (pc_notN (pe_call G_l_figures (hr.mono (by decide)) (by rfl) T.g_l_figures T.F_l_figures.kp T.b_l_figures .nil passL (pa_cons (pv 2) (pa_cons (pv 3) (pa_cons (pv 8) pa_nil))))) rfl))) pa_nil))))))))))), run_body (ρ := [some (tbD T told L c ls mids), some (.lst (told.map tpD)), none, none, none, none, none, none, none]) hs hR hK hX rfl ?_⟩
  have hS : TbS L c := ⟨hT.led, hT.sz, hT.bc⟩
  obtain ⟨V, hw, hV, hno⟩ := hT.bw
  have hl2 := led_len hT.led
  have c0 := hT.led.1
  have zL : 1000001 < sizeLine := by decide
  obtain ⟨DD, hD⟩ : ∃ DD : List P3, DD = L ++ if 0 < c then [zz c] else [] := ⟨_, rfl⟩
  have hDl : DD.length ≤ 3 := by rw [hD, List.length_append]; split <;> simp <;> omega
  rw [← hD] at hno
  have hml := hno.1
  have mem : ∀ p ∈ told, InT L c p := fun p hp => (int_gen hT.led p).mpr ((hT.ge p).mp (gen_mem hp))
  refine ws_cut (fun ρ' B' => ρ' = [some (tbD T told L c ls mids), some (.lst (told.map tpD)), none, none, none, none, none, none, none] ∧ B = B') ?_ ?_
  · refine ws_if <| wt_or <| wt_not <| wt_val <| we_isiC <| we_var rfl ⟨tyD_tb T, kit_self, _, rfl, (fun h => nomatch h), fun _ => ?_⟩
    refine wt_or <| wt_not <| wt_val <| we_isi1 <| tb_fld T rfl T.na_Table_ledge rfl ⟨tyD_tup, kit_tt, _, rfl, (fun h => nomatch h), fun _ => ?_⟩
    exact wt_not <| wt_val <| we_isi1 <| tb_fld T rfl T.na_Table_recipe rfl ⟨tyD_tup, kit_tt, _, rfl, (fun h => nomatch h), fun _ => ws_next ⟨rfl, rfl⟩⟩
  rintro _ _ ⟨rfl, rfl⟩
  refine ws_cut (fun ρ' B' => ρ' = [some (tbD T told L c ls mids), some (.lst (told.map tpD)), none, none, none, none, none, none, none] ∧ B = B') ?_ ?_
  · refine ws_if <| wt_or <| wt_not <| wt_val <| we_all <| wa_cons <| we_lc_tup (E1 := E0) <| tb_fld T rfl T.na_Table_ledge rfl ⟨_, rfl, by rw [List.length_map]; omega, fun n out B' => out = (List.replicate n true).map D.bl ∧ B = B', ⟨rfl, rfl⟩, fun n x out B' hx hI => ?_, fun out B' _ hI => ?_⟩
    · obtain ⟨rfl, rfl⟩ := hI
      obtain ⟨r, hr, rfl⟩ := at_map hx
      refine wt_yes ⟨fun _ => we_isi_Place T <| wa_cons <| we_var rfl <| wa_cons <| we_val <| wa_nil ⟨_, rfl, .inr ⟨⟨_, _, _, rfl⟩, ?_, rfl⟩⟩, fun h => nomatch h⟩
      rw [List.replicate_succ', List.map_append]
      rfl
    · obtain ⟨rfl, rfl⟩ := hI
      refine wa_nil ⟨_, rfl, _, rfl, (fun h => absurd h (by simp)), fun _ => ?_⟩
      exact wt_not <| wt_val <| we_isi1 <| tb_fld T rfl T.na_Table_made rfl ⟨tyD_tup, kit_tt, _, rfl, (fun h => nomatch h), fun _ => ws_next ⟨rfl, rfl⟩⟩
  rintro _ _ ⟨rfl, rfl⟩
  refine ws_cut (fun ρ' B' => ρ' = [some (tbD T told L c ls mids), some (.lst (told.map tpD)), some (.lst (L.map tpD)), some (.int c), some (.lst (V.map tpD)), none, none, none, none] ∧ B = B') ?_ ?_
  · refine ws_asg <| we_tup <| wa_cons <| we_lc_tup (E1 := E0) <| tb_fld T rfl T.na_Table_ledge rfl ⟨L.map (plp T), rfl, by rw [List.length_map]; omega, fun n out B' => out = (L.take n).map tpD ∧ B = B', ⟨rfl, rfl⟩, fun n x out B' hx hI => ?_, fun out B' _ hI => ?_⟩
    · obtain ⟨rfl, rfl⟩ := hI
      obtain ⟨r, hr, rfl⟩ := at_map hx
      exact wt_yes ⟨fun _ => we_call <| wa_cons <| we_var rfl <| wa_nil ⟨r, rfl, by rw [List.take_add_one, hr, List.map_append]; rfl, rfl⟩, fun h => nomatch h⟩
    · obtain ⟨rfl, rfl⟩ := hI
      rw [List.length_map, List.take_length]
      exact wa_cons <| tb_fld T rfl T.na_Table_home rfl <| wa_cons <| we_call <| wa_cons <| we_var rfl <| wa_cons <| tb_fld T rfl T.na_Table_recipe rfl <| wa_nil ⟨told, V, ls, rfl, hw, by omega, wa_nil ⟨Nat.le_of_ble_eq_true rfl, wg_tup rfl <| wgs_cons <| wg_name <| wgs_cons <| wg_name <| wgs_cons <| wg_name <| wgs_nil ⟨rfl, rfl⟩⟩⟩
  rintro _ _ ⟨rfl, rfl⟩
  refine ws_cut (fun ρ' B' => ρ' = [some (tbD T told L c ls mids), some (.lst (told.map tpD)), some (.lst (L.map tpD)), some (.int c), some (.lst (V.map tpD)), none, none, none, none] ∧ B = B') ?_ ?_
  · exact ws_if <| wt_or <| wt_not <| wt_val <| we_call <| wa_cons <| we_var rfl <| wa_cons <| we_var rfl <| wa_nil ⟨L, c, rfl, hS, _, rfl, (fun h => nomatch h), fun _ => wt_val <| we_isN <| we_var rfl ⟨_, rfl, (fun h => nomatch h), fun _ => ws_next ⟨rfl, rfl⟩⟩⟩
  rintro _ _ ⟨rfl, rfl⟩
  refine ws_cut (fun ρ' B' => ρ' = [some (tbD T told L c ls mids), some (.lst (told.map tpD)), some (.lst (L.map tpD)), some (.int c), some (.lst (V.map tpD)), some (.lst (DD.map tpD)), none, none, none] ∧ B = B') ?_ ?_
  · refine ws_set <| we_op <| we_var rfl <| we_op <| we_lst <| wa_cons <| we_tup <| wa_cons <| we_int <| wa_cons <| we_int <| wa_cons <| we_var rfl <| wa_nil ⟨Nat.le_of_ble_eq_true rfl, wa_nil ⟨Nat.le_of_ble_eq_true rfl, we_intofB <| wa_cons <| we_op <| we_var rfl <| we_int <| ro_b0 <| wa_nil ⟨_, rfl, ?_⟩⟩⟩
    by_cases cp : 0 < c
    · rw [decide_eq_true (show c > 0 from cp)]
      refine ro_rep (by decide) (by decide) (show 1 * 1 ≤ sizeLine by decide) <| ro_catL (by rw [List.length_map]; show _ + 1 ≤ _; omega) ⟨?_, rfl⟩
      rw [hD, if_pos cp, List.map_append]; rfl
    · rw [decide_eq_false (show ¬ c > 0 from cp)]
      refine ro_rep (by decide) (by decide) (show 1 * 0 ≤ sizeLine by decide) <| ro_catL (by rw [List.length_map]; show _ + 0 ≤ _; omega) ⟨?_, rfl⟩
      rw [hD, if_neg cp, List.append_nil]
      show [_, _, _, _, _, some (D.lst (L.map tpD ++ [])), _, _, _] = [_, _, _, _, _, some (D.lst (L.map tpD)), _, _, _]
      rw [List.append_nil]
  rintro _ _ ⟨rfl, rfl⟩
  have getM : ∀ {n : Nat} {x : D}, (mids.map idD)[n]? = some x → ∃ (j : Nat) (q : P3), x = .int (j : Nat) ∧ DD[n]? = some q ∧ V[j]? = some q := fun {n x} hx => by
    obtain ⟨j, hj, rfl⟩ := at_map hx
    obtain ⟨q, h1, h2⟩ := hno.get hj
    exact ⟨j, q, rfl, h1, h2⟩
  refine ws_cut (fun ρ' B' => ρ' = [some (tbD T told L c ls mids), some (.lst (told.map tpD)), some (.lst (L.map tpD)), some (.int c), some (.lst (V.map tpD)), some (.lst (DD.map tpD)), none, none, none] ∧ B = B') ?_ ?_
  · refine ws_if <| wt_or <| wt_test <| we_op <| we_lenT <| wa_cons <| tb_fld T rfl T.na_Table_made rfl <| wa_nil ⟨_, rfl, we_lenL <| wa_cons <| we_var rfl <| wa_nil ⟨_, rfl, ro_neI ⟨_, rfl, (fun h => absurd (by rw [List.length_map, List.length_map, hml]) (neD h)), fun _ => ?_⟩⟩⟩
    refine wt_not <| wt_val <| we_all <| wa_cons <| we_lc_tup (E1 := E0) <| tb_fld T rfl T.na_Table_made rfl ⟨_, rfl, by rw [List.length_map]; omega, fun n out B' => out = (List.replicate n true).map D.bl ∧ B = B', ⟨rfl, rfl⟩, fun n x out B' hx hI => ?_, fun out B' _ hI => ?_⟩
    · obtain ⟨rfl, rfl⟩ := hI
      obtain ⟨j, q, rfl, _, hv⟩ := getM hx
      have hj := (List.getElem?_eq_some_iff.mp hv).1
      refine wt_yes ⟨fun _ => we_chain <| we_int <| we_var rfl <| ro_b0 ⟨_, rfl, (fun _ => we_lenL <| wa_cons <| we_var rfl <| wa_nil ⟨_, rfl, ro_b0 ⟨?_, rfl⟩⟩), fun h => absurd (Int.natCast_nonneg j) (of_decide_eq_false h)⟩, fun h => nomatch h⟩
      rw [decide_eq_true (show (j : Int) < ((V.map tpD).length : Nat) by rw [List.length_map]; omega), List.replicate_succ', List.map_append]
      rfl
    · obtain ⟨rfl, rfl⟩ := hI
      exact wa_nil ⟨_, rfl, _, rfl, (fun h => absurd h (by simp)), fun _ => ws_next ⟨rfl, rfl⟩⟩
  rintro _ _ ⟨rfl, rfl⟩
  refine ws_cut (fun ρ' B' => ρ' = [some (tbD T told L c ls mids), some (.lst (told.map tpD)), some (.lst (L.map tpD)), some (.int c), some (.lst (V.map tpD)), some (.lst (DD.map tpD)), none, none, none] ∧ B = B') ?_ ?_
  · refine ws_if <| wt_test <| we_op <| we_lc_tup (E1 := E0) <| tb_fld T rfl T.na_Table_made rfl ⟨_, rfl, by rw [List.length_map]; omega, fun n out B' => out = (DD.take n).map tpD ∧ B = B', ⟨rfl, rfl⟩, fun n x out B' hx hI => ?_, fun out B' _ hI => ?_⟩
    · obtain ⟨rfl, rfl⟩ := hI
      obtain ⟨j, q, rfl, hq, hv⟩ := getM hx
      exact wt_yes ⟨fun _ => we_op <| we_var rfl <| we_var rfl <| ro_ixL (atI_nat (by rw [List.getElem?_map, hv]; rfl)) ⟨by rw [List.take_add_one, hq, List.map_append]; rfl, rfl⟩, fun h => nomatch h⟩
    · obtain ⟨rfl, rfl⟩ := hI
      rw [List.length_map, hml, List.take_length]
      have o1 := ok_lm (f := tpD) (fun _ => rfl) DD
      have s1 := sh_lm (f := tpD) (fun _ => rfl) (fun _ => Nat.le_of_ble_eq_true rfl) DD
      refine we_var rfl <| ro_neD o1 o1 s1 s1 ?_
      rw [eqv_self]
      exact ⟨_, rfl, (fun h => nomatch h), fun _ => ws_next ⟨rfl, rfl⟩⟩
  rintro _ _ ⟨rfl, rfl⟩
  refine ws_ret <| we_all <| wa_cons <| we_lc_list (E1 := E0) <| we_var rfl ⟨_, rfl, by rw [List.length_map]; omega, fun n out B' => out = (List.replicate n true).map D.bl ∧ B = B', ⟨rfl, rfl⟩, fun n x out B' hx hI => ?_, fun out B' _ hI => ?_⟩
  · obtain ⟨rfl, rfl⟩ := hI
    obtain ⟨p, hp, rfl⟩ := at_map hx
    have hpm := List.mem_of_getElem? hp
    obtain ⟨b1, b2⟩ := hbd p hpm
    refine wt_yes ⟨fun _ => we_notN <| we_call <| wa_cons <| we_var rfl <| wa_cons <| we_var rfl <| wa_cons <| we_var rfl <| wa_nil ⟨L, c, p, rfl, hS, b1, b2, fun d hd _ => ?_⟩, fun h => nomatch h⟩
    obtain ⟨xs, rfl⟩ := hd (mem p hpm)
    exact ⟨by rw [List.replicate_succ', List.map_append]; rfl, rfl⟩
  · obtain ⟨rfl, rfl⟩ := hI
    refine wa_nil ⟨_, rfl, ?_⟩
    have e : (List.replicate (told.map tpD).length true).all id = true := by simp
    rw [e]
    exact hk
end
end AW

set_option linter.all false
set_option maxRecDepth 100000
set_option maxHeartbeats 8000000
namespace AW
open PySem PySem.Spec PyProof.Rows L2 LamX Tbl
variable [Tbs]
section
variable {P : Program} {w : World} {K : PySem.W.Frag} {mg : Str → Option Value} {base : Heap}
/-- the ends reach to all sides -/
def Around (told : List P3) : Prop := ∀ f : Int × Int, f ≠ (0, 0) → ∃ p ∈ told, fvF f p < 0
theorem least_in : ∀ ns : List Int, ns ≠ [] → ∃ m, m ∈ ns ∧ ∀ y ∈ ns, m ≤ y
  | [], h => absurd rfl h
  | [a], _ => ⟨a, List.mem_cons_self .., fun y hy => by rw [List.mem_singleton.mp hy]; exact Int.le_refl _⟩
  | a :: b :: ns, _ => by
    obtain ⟨m, hm, hl⟩ := least_in (b :: ns) (by simp)
    by_cases h : a ≤ m
    · exact ⟨a, List.mem_cons_self .., fun y hy => by
        rcases List.mem_cons.mp hy with rfl | hy
        · exact Int.le_refl _
        · have := hl y hy; omega⟩
    · exact ⟨m, List.mem_cons_of_mem _ hm, fun y hy => by
        rcases List.mem_cons.mp hy with rfl | hy
        · omega
        · exact hl y hy⟩
theorem eqv_t2 (a b c d : Int) : PyData.eqv (py (t2 a b)) (py (t2 c d)) = decide (a = c ∧ b = d) := by
  rw [Bool.eq_iff_iff, decide_eq_true_eq]
  simp [t2, py, pyL, PyData.eqv, PyData.eqvAll]
def pr_Place_twist (T : Tx K mg) : Pr := fun ds B k e => ∃ p q : P3, ds = [plp T p, plp T q] ∧ Bd 40000 p.1 ∧ Bd 40000 p.2.1 ∧ Bd 40000 q.1 ∧ Bd 40000 q.2.1 ∧ k (.int (p.1 * q.2.1 - q.1 * p.2.1)) B
theorem okD_Place_twist (T : Tx K mg) : FnOk P w K mg base (L2.CX P w) 5 T.a_Place_twist T.d_Place_twist P_Place_twist (spD K (pr_Place_twist T)) := by
  refine T.F_Place_twist.okX sc_Place_twist (spD_len fun ds B k e h => by obtain ⟨⟨x, y, a⟩, ⟨x', y', a'⟩, rfl, b1, b2, b3, b4, hk⟩ := h; rfl) (fun cdv A outer s H vs Q E hr h => ?_)
  have G_check_place : FnOk P w K mg base (L2.CX P w) _ _ _ _ _ := okD_check_place T
  obtain ⟨G, ds, B, k, e, hs, hR, ⟨⟨x, y, a⟩, ⟨x', y', a'⟩, rfl, b1, b2, b3, b4, hk⟩, hK, hX⟩ := h
  refine ⟨_, (pss_cons (ps_expr (pe_call G_check_place (hr.mono (by decide)) (by rfl) T.g_check_place T.F_check_place.kp T.b_check_place .nil passL (pa_cons (pv 1) pa_nil)))
 (pss_one (ps_ret (pe_op op_sub (pe_op op_mulW (pe_fld (pv 0) rfl) (pe_fld (pv 1) rfl)) (pe_op op_mulW (pe_fld (pv 1) rfl) (pe_fld (pv 0) rfl)))))), run_body (ρ := [some (pl T x y a), some (pl T x' y' a')]) hs hR hK hX rfl ?_⟩
  have b1 : Bd 40000 x := b1
  have b2 : Bd 40000 y := b2
  have b3 : Bd 40000 x' := b3
  have b4 : Bd 40000 y' := b4
  have c1 : CMulW x y' := cmc (b1.mono (by decide)) (b4.mono (by decide))
  have c2 : CMulW x' y := cmc (b3.mono (by decide)) (b2.mono (by decide))
  refine ws_seq (ws_drop (we_call (wa_cons (we_var rfl (wa_nil ⟨_, rfl, .inl ⟨_, _, _, rfl, ?_⟩⟩)))))
  refine (ws_ret (we_op (we_op (we_fx T (we_var rfl ⟨_, _, _, rfl, (we_fy T (we_var rfl ⟨_, _, _, rfl, (ro_i (by assumption) (we_op (we_fx T (we_var rfl ⟨_, _, _, rfl, (we_fy T (we_var rfl ⟨_, _, _, rfl, (ro_i (by assumption) (ro_i0 ?_))⟩))⟩))))⟩))⟩)))))
  exact hk
def foF (p : P3) : Int × Int := (-p.2.1, p.1)
def pr_half_of (T : Tx K mg) : Pr := fun ds B k e => ∃ (told : List P3), ds = [.tup (told.map (plp T))] ∧ told.length ≤ 8 ∧ (∀ p ∈ told, Bd 1000 p.1 ∧ Bd 1000 p.2.1) ∧ Around told ∧ k .non B
theorem okD_half_of (T : Tx K mg) : FnOk P w K mg base (L2.CX P w) 2 T.a_half_of T.d_half_of P_half_of (spD K (pr_half_of T)) := by
  refine T.F_half_of.okX sc_half_of (spD_len fun ds B k e h => by obtain ⟨told, rfl, h8, hbd, har, hk⟩ := h; rfl) (fun cdv A outer s H vs Q E hr h => ?_)
  have G_form_value : FnOk P w K mg base (L2.CX P w) 1 _ _ _ _ := okD_form_value T
  obtain ⟨G, ds, B, k, e, hs, hR, ⟨told, rfl, h8, hbd, har, hk⟩, hK, hX⟩ := h
  refine ⟨_, (pss_cons (ps_for (passes_of rfl) rfl (pi_list (pe_op op_cat (pe_lst (pa_cons (pe_tup (pa_cons pe_int (pa_cons pe_int pa_nil))) pa_nil)) (pe_lc (te := (tTup (tCons (tUn (rU fun i => V.int (-i)) (tFld K (tVar 2) "y")) (tCons (tFld K (tVar 2) "x") tNil)))) (own := [("place", 2)]) (g := gName 2) (by rfl) sc_half_of.nd (pi_tup (pv 0)) (blkOk_by (own := [("place", 2)]) (N := N_half_of) (sc := defScope s_half_of) (by decide +kernel)) (fun _ _ _ _ _ => pg_name (i := 2) sc_half_of.nd rfl (Or.inl rfl)) (fun _ _ _ _ _ => pts_nil) (fun _ _ _ _ _ => (pe_tup (pa_cons (pe_un un_neg (pe_fld (pv 2) rfl)) (pa_cons (pe_fld (pv 2) rfl) pa_nil))))))) (pg_name (i := 1) sc_half_of.nd rfl (.inr rfl))
 (pss_one (ps_if (PW.pt (pw_and (pt_cmpR (op_neD hr.units) (pv 1) (pe_tup (pa_cons pe_int (pa_cons pe_int pa_nil))) (nomark _)) (pw_and1 (pt_cmpR op_ge (pe_callBK (RM.crk_minD rfl (un65 hr)) (by rfl) T.n_min (by decide +kernel) (pa_cons (pe_lc (te := (tCall (spD K (pr_form_value T)) [] E0 (tCons (tVar 1) (tCons (tVar 2) tNil)))) (own := [("place", 2)]) (g := gName 2) (by rfl) sc_half_of.nd (pi_tup (pv 0)) (blkOk_by (own := [("place", 2)]) (N := N_half_of) (sc := defScope s_half_of) (by decide +kernel)) (fun _ _ _ _ _ => pg_name (i := 2) sc_half_of.nd rfl (Or.inl rfl)) (fun _ _ _ _ _ => pts_nil) (fun _ _ _ _ _ => (pe_call G_form_value (hr.mono (by decide)) (by rfl) T.g_form_value T.F_form_value.kp T.b_form_value .nil passL (pa_cons (pv 1) (pa_cons (pv 2) pa_nil))))) pa_nil) (pk_cons pe_int pk_nil)) pe_int (nomark _)))))
 (pss_one (ps_ret (pv 1)))
 pss_nil)))
 (pss_one (ps_ret pe_non))), run_body (ρ := [some (.tup (told.map (plp T))), none, none]) hs hR hK hX rfl ?_⟩
  have zL : 1000 < sizeLine := by decide
  have z2 : 2 ≤ sizeLine := by decide
  refine ws_seq <| ws_for_list <| we_op <| we_lst <| wa_cons <| we_tup <| wa_cons <| we_int <| wa_cons <| we_int <| wa_nil ⟨z2, wa_nil ⟨Nat.le_of_ble_eq_true rfl, we_lc_toldT (E1 := E0) (f := plp T) (g := fun p => t2 (foF p).1 (foF p).2) <| we_var rfl ⟨told, rfl, by omega, fun p hp k' hk' => ?_, ?_⟩⟩⟩
  · exact we_tup <| wa_cons <| we_neg <| we_fy T <| we_var rfl ⟨_, _, _, rfl, _, rfl, wa_cons <| we_fx T <| we_var rfl ⟨_, _, _, rfl, wa_nil ⟨z2, hk'⟩⟩⟩
  obtain ⟨fs, hfs, hfb⟩ : ∃ fs : List (Int × Int), fs = (1, 0) :: told.map foF ∧ ∀ f ∈ fs, Bd 1000 f.1 ∧ Bd 1000 f.2 := ⟨_, rfl, fun f hf => by
    rcases List.mem_cons.mp hf with rfl | hf
    · exact ⟨(bd1 (by decide)).1, bdz⟩
    · obtain ⟨p, hp, rfl⟩ := List.mem_map.mp hf
      exact ⟨(hbd p hp).2.neg, (hbd p hp).1⟩⟩
  have hfl : fs.length ≤ 9 := by rw [hfs, List.length_cons, List.length_map]; omega
  refine ro_catL (by rw [List.length_map]; show 1 + _ ≤ _; omega) ?_
  refine ⟨fs.map fun f => t2 f.1 f.2, by rw [hfs, List.map_cons, List.map_map]; rfl, fun i ρ' B' => (∃ o1 o2, ρ' = [some (.tup (told.map (plp T))), o1, o2]) ∧ B = B', ⟨⟨none, none, rfl⟩, rfl⟩, fun i x ρ' B' hx hI => ?_, fun ρ' B' hI => ?_⟩
  · obtain ⟨⟨o1, o2, rfl⟩, rfl⟩ := hI
    obtain ⟨f, hf, rfl⟩ := at_map hx
    have hb := hfb f (List.mem_of_getElem? hf)
    refine wg_name ?_
    refine ws_if <| wt_and <| wt_test <| we_op <| we_var rfl <| we_tup <| wa_cons <| we_int <| wa_cons <| we_int <| wa_nil ⟨z2, ro_neD rfl rfl rfl rfl ?_⟩
    rw [show (D.tup [.int 0, .int 0]) = t2 0 0 from rfl, eqv_t2]
    refine ⟨_, rfl, fun h => ?_, fun h => ⟨(fun z => nomatch z), fun _ => ws_next ⟨⟨_, _, rfl⟩, rfl⟩⟩⟩
    have hne : f ≠ (0, 0) := fun z => by
      rw [z] at h
      exact absurd h (by decide)
    obtain ⟨p0, hp0, hlt⟩ := har f hne
    refine wt_test <| we_op <| we_minD <| wa_cons <| we_lc_toldT (E1 := E0) (f := plp T) (g := fun p => .int (fvF f p)) <| we_var rfl ⟨told, rfl, by omega, fun p hp k' hk' => ?_, wa_nil <| wa_cons <| we_int <| wa_nil ?_⟩
    · exact we_call <| wa_cons <| we_var rfl <| wa_cons <| we_var rfl <| wa_nil ⟨f, p, rfl, hb.1.mono (by decide), hb.2.mono (by decide), (hbd p hp).1.mono (by decide), (hbd p hp).2.mono (by decide), hk'⟩
    obtain ⟨m, hm, hl⟩ := least_in (told.map (fvF f)) (by intro z; rw [List.map_eq_nil_iff] at z; rw [z] at hp0; cases hp0)
    refine ⟨told.map (fvF f), m, _, by rw [List.map_map]; rfl, rfl, hm, hl, we_int <| ro_b0 ⟨_, rfl, fun h => ?_, fun _ => ws_next ⟨⟨_, _, rfl⟩, rfl⟩⟩⟩
    have h := of_decide_eq_true h
    have := hl _ (List.mem_map_of_mem hp0)
    omega
  · obtain ⟨⟨o1, o2, rfl⟩, rfl⟩ := hI
    exact ws_ret <| we_non hk
/-- how far a place lies to the left of the hub -/
def twF (h p : P3) : Int := h.1 * p.2.1 - p.1 * h.2.1
def boN : Option Nat → D
  | none => .non
  | some n => .int (n : Nat)
structure WhI (told : List P3) (h : P3) (i : Nat) (l r f : Option Nat) : Prop where
  l1 : ∀ n, l = some n → n < told.length
  r1 : ∀ n, r = some n → n < told.length
  l0 : l = none → ∀ j p, j < i → told[j]? = some p → twF h p ≤ 0
  r0 : r = none → ∀ j p, j < i → told[j]? = some p → 0 ≤ twF h p
theorem WhI.step {told : List P3} {h p : P3} {i : Nat} {l r f : Option Nat} (hw : WhI told h i l r f) (hp : told[i]? = some p) {l' r' f' : Option Nat} (hl : l' = some i ∨ l' = l ∧ (l = none → twF h p ≤ 0)) (hr : r' = some i ∨ r' = r ∧ (r = none → 0 ≤ twF h p)) : WhI told h (i + 1) l' r' f' := by
  have hi := (List.getElem?_eq_some_iff.mp hp).1
  refine ⟨fun n e => ?_, fun n e => ?_, fun e j q hj hq => ?_, fun e j q hj hq => ?_⟩
  · rcases hl with rfl | ⟨rfl, _⟩
    · cases e; exact hi
    · exact hw.l1 n e
  · rcases hr with rfl | ⟨rfl, _⟩
    · cases e; exact hi
    · exact hw.r1 n e
  · rcases hl with rfl | ⟨rfl, h0⟩
    · cases e
    · rcases Nat.lt_or_ge j i with z | z
      · exact hw.l0 e j q z hq
      · have : j = i := by omega
        subst this
        rw [hp] at hq
        cases hq
        exact h0 e
  · rcases hr with rfl | ⟨rfl, h0⟩
    · cases e
    · rcases Nat.lt_or_ge j i with z | z
      · exact hw.r0 e j q z hq
      · have : j = i := by omega
        subst this
        rw [hp] at hq
        cases hq
        exact h0 e
def pr_wheel_of (T : Tx K mg) : Pr := fun ds B k e => ∃ (told : List P3), ds = [.tup (told.map (plp T))] ∧ told.length ≤ 8 ∧ (∀ p ∈ told, Bd 1000 p.1 ∧ Bd 1000 p.2.1) ∧ Around told ∧ ∀ ws : List D, k (.tup ws) B
theorem okD_wheel_of (T : Tx K mg) : FnOk P w K mg base (L2.CX P w) 6 T.a_wheel_of T.d_wheel_of P_wheel_of (spD K (pr_wheel_of T)) := by
  refine T.F_wheel_of.okX sc_wheel_of (spD_len fun ds B k e h => by obtain ⟨told, rfl, h8, hbd, har, hk⟩ := h; rfl) (fun cdv A outer s H vs Q E hr h => ?_)
  have G_Place_twist : FnOk P w K mg base (L2.CX P w) 5 _ _ _ _ := okD_Place_twist T
  obtain ⟨G, ds, B, k, e, hs, hR, ⟨told, rfl, h8, hbd, har, hk⟩, hK, hX⟩ := h
  refine ⟨_, (pss_cons (ps_set (i := 1) sc_wheel_of.nd rfl (.inl rfl) (pe_ix ix_list (pe_lc (tt := (tTest (tOp (rNeD K) (tTup (tCons (tFld K (tVar 7) "x") (tCons (tFld K (tVar 7) "y") tNil))) (tTup (tCons (tC (.int 0)) (tCons (tC (.int 0)) tNil)))))) (te := (tVar 6)) (own := [("at", 6), ("place", 7)]) (g := gTup K 2 (gCons (gName 6) (gCons (gName 7) gNil))) (by rfl) sc_wheel_of.nd (pi_enumT (by rfl) T.n_enumerate (pa_cons (pv 0) pa_nil)) (blkOk_by (own := [("at", 6), ("place", 7)]) (N := N_wheel_of) (sc := defScope s_wheel_of) (by decide +kernel)) (fun _ _ _ _ _ => pg_tup rfl (pgs_cons (pg_name (i := 6) sc_wheel_of.nd rfl (Or.inl rfl)) (pgs_cons (pg_name (i := 7) sc_wheel_of.nd rfl (Or.inl rfl)) pgs_nil))) (fun _ _ _ _ _ => (pts_one (pt_cmpR (op_neD hr.units) (pe_tup (pa_cons (pe_fld (pv 7) rfl) (pa_cons (pe_fld (pv 7) rfl) pa_nil))) (pe_tup (pa_cons pe_int (pa_cons pe_int pa_nil))) (nomark _)))) (fun _ _ _ _ _ => (pv 6))) pe_int (fun _ _ => rfl)))
 (pss_cons (ps_set (i := 2) sc_wheel_of.nd rfl (.inl rfl) (pe_ix ix_tup (pv 0) (pv 1) (fun _ _ => rfl)))
 (pss_cons (ps_asg3 pe_non (pg_name (i := 3) sc_wheel_of.nd rfl (.inl rfl)) (pg_name (i := 4) sc_wheel_of.nd rfl (.inl rfl)) (pg_name (i := 5) sc_wheel_of.nd rfl (.inl rfl)))
 (pss_cons (ps_for (passes_of rfl) rfl (pi_enumT (by rfl) T.n_enumerate (pa_cons (pv 0) pa_nil)) (pg_tup rfl (pgs_cons (pg_name (i := 6) sc_wheel_of.nd rfl (.inl rfl)) (pgs_cons (pg_name (i := 7) sc_wheel_of.nd rfl (.inl rfl)) pgs_nil)))
 (pss_cons (ps_set (i := 8) sc_wheel_of.nd rfl (.inl rfl) (pe_meth (pv 2) T.cl_Place T.M_Place_twist G_Place_twist (hr.mono (by decide)) T.b_Place_twist .nil passL (pa_cons (pv 7) pa_nil)))
 (pss_one (ps_if (PW.pt (pw_and (pt_cmpR op_gt (pv 8) pe_int (nomark _)) (pw_and1 (PW.pt (pw_or (pt_cmp (pc_isN (pv 3))) (pw_or1 (pt_cmpR op_gt (pe_meth (pe_ix ix_tup (pv 0) (pv 3) (fun _ _ => rfl)) T.cl_Place T.M_Place_twist G_Place_twist (hr.mono (by decide)) T.b_Place_twist .nil passL (pa_cons (pv 7) pa_nil)) pe_int (nomark _))))))))
 (pss_one (ps_set (i := 3) sc_wheel_of.nd rfl (.inl rfl) (pv 6)))
 (pss_one (ps_if (PW.pt (pw_and (pt_cmpR op_lt (pv 8) pe_int (nomark _)) (pw_and1 (PW.pt (pw_or (pt_cmp (pc_isN (pv 4))) (pw_or1 (pt_cmpR op_lt (pe_meth (pe_ix ix_tup (pv 0) (pv 4) (fun _ _ => rfl)) T.cl_Place T.M_Place_twist G_Place_twist (hr.mono (by decide)) T.b_Place_twist .nil passL (pa_cons (pv 7) pa_nil)) pe_int (nomark _))))))))
 (pss_one (ps_set (i := 4) sc_wheel_of.nd rfl (.inl rfl) (pv 6)))
 (pss_one (ps_if (PW.pt (pw_and (pt_cmpR op_eq (pv 8) pe_int (nomark _)) (pw_and1 (pt_cmpR op_lt (pe_op op_add (pe_op op_mulW (pe_fld (pv 2) rfl) (pe_fld (pv 7) rfl)) (pe_op op_mulW (pe_fld (pv 2) rfl) (pe_fld (pv 7) rfl))) pe_int (nomark _)))))
 (pss_one (ps_set (i := 5) sc_wheel_of.nd rfl (.inl rfl) (pv 6)))
 pss_nil))))))))
 (pss_cons (ps_if (pt_cmpR op_gt (pe_meth (pe_ix ix_tup (pv 0) (pv 3) (fun _ _ => rfl)) T.cl_Place T.M_Place_twist G_Place_twist (hr.mono (by decide)) T.b_Place_twist .nil passL (pa_cons (pe_ix ix_tup (pv 0) (pv 4) (fun _ _ => rfl)) pa_nil)) pe_int (nomark _))
 (pss_one (ps_ret (pe_tup (pa_cons (pv 1) (pa_cons (pv 3) (pa_cons (pv 4) pa_nil))))))
 pss_nil)
 (pss_one (ps_ret (pe_tup (pa_cons (pv 1) (pa_cons (pv 3) (pa_cons (pv 5) (pa_cons (pv 4) pa_nil)))))))))))), run_body (ρ := [some (.tup (told.map (plp T))), none, none, none, none, none, none, none, none]) hs hR hK hX rfl ?_⟩
  have zL : 1000 < sizeLine := by decide
  have z2 : 2 ≤ sizeLine := by decide
  refine ws_cut (fun ρ' B' => (∃ (n0 : Nat) (h : P3), ρ' = [some (.tup (told.map (plp T))), some (.int (n0 : Nat)), none, none, none, none, none, none, none] ∧ told[n0]? = some h ∧ (h.1, h.2.1) ≠ (0, 0)) ∧ B = B') ?_ ?_
  · refine ws_set <| we_op <| we_lc_enumT (E1 := E0) (by decide) <| wa_cons <| we_var rfl <| wa_nil ⟨_, rfl, by rw [List.length_map]; omega, fun i out B' => (∃ ns : List Nat, out = ns.map (fun n => D.int (n : Nat)) ∧ (∀ n ∈ ns, ∃ p, told[n]? = some p ∧ (p.1, p.2.1) ≠ (0, 0)) ∧ ((∃ j p, j < i ∧ told[j]? = some p ∧ (p.1, p.2.1) ≠ (0, 0)) → ns ≠ [])) ∧ B = B', ⟨⟨[], rfl, (fun n hn => nomatch hn), fun ⟨j, p, hj, _⟩ => absurd hj (Nat.not_lt_zero _)⟩, rfl⟩, fun n x out B' hx hI => ?_, fun out B' ho hI => ?_⟩
    · obtain ⟨⟨ns, rfl, h1, h2⟩, rfl⟩ := hI
      obtain ⟨p, hp, rfl⟩ := at_map hx
      refine wt_test <| we_op <| we_tup <| wa_cons <| we_fx T <| we_var rfl ⟨_, _, _, rfl, wa_cons <| we_fy T <| we_var rfl ⟨_, _, _, rfl, wa_nil ⟨z2, we_tup <| wa_cons <| we_int <| wa_cons <| we_int <| wa_nil ⟨z2, ro_neD rfl rfl rfl rfl ?_⟩⟩⟩⟩
      rw [show (D.tup [.int p.1, .int p.2.1]) = t2 p.1 p.2.1 from rfl, show (D.tup [.int 0, .int 0]) = t2 0 0 from rfl, eqv_t2]
      refine ⟨_, rfl, fun h => we_var rfl ⟨⟨ns ++ [n], by rw [List.map_append]; rfl, fun m hm => ?_, fun _ => by simp⟩, rfl⟩, fun h => ⟨⟨ns, rfl, h1, fun ⟨j, q, hj, hq, hne⟩ => ?_⟩, rfl⟩⟩
      · rcases List.mem_append.mp hm with hm | hm
        · exact h1 m hm
        · rw [List.mem_singleton.mp hm]
          refine ⟨p, hp, fun z => ?_⟩
          injection z with z1 z2
          rw [z1, z2] at h
          exact absurd h (by decide)
      · rcases Nat.lt_or_ge j n with hjn | hjn
        · exact h2 ⟨j, q, hjn, hq, hne⟩
        · have : j = n := by omega
          subst this
          rw [hp] at hq
          cases hq
          exfalso
          have h3 : decide (p.1 = 0 ∧ p.2.1 = 0) = true := by simpa using h
          obtain ⟨e1, e2⟩ := of_decide_eq_true h3
          exact hne (by rw [e1, e2])
    · obtain ⟨⟨ns, rfl, h1, h2⟩, rfl⟩ := hI
      have hn : ns ≠ [] := h2 (by
        obtain ⟨p, hp, hlt⟩ := har (1, 0) (by decide)
        obtain ⟨j, hj, ej⟩ := List.mem_iff_getElem.mp hp
        refine ⟨j, p, by rw [List.length_map]; exact hj, by rw [List.getElem?_eq_getElem hj, ej], fun z => ?_⟩
        injection z with z1 z2
        unfold fvF at hlt
        rw [z1, z2] at hlt
        omega)
      obtain ⟨n0, ns, rfl⟩ : ∃ n0 ns', ns = n0 :: ns' := by
        cases ns with
        | nil => exact absurd rfl hn
        | cons a b => exact ⟨a, b, rfl⟩
      obtain ⟨p, hp, hne⟩ := h1 n0 (List.mem_cons_self ..)
      exact we_int <| ro_ixL (d := .int (n0 : Nat)) (by exact atI_nat (j := 0) rfl) ⟨⟨n0, p, rfl, hp, hne⟩, rfl⟩
  rintro _ _ ⟨⟨n0, h, rfl, hn0, hne⟩, rfl⟩
  have hh := List.mem_of_getElem? hn0
  refine ws_seq <| ws_set <| we_op <| we_var rfl <| we_var rfl <| ro_ixT (d := plp T h) (atI_nat (by rw [List.getElem?_map, hn0]; rfl)) ?_
  have hhb := hbd h hh
  have btw : ∀ p ∈ told, Bd 2002 (twF h p) := fun p hp => ((Bd.mul hhb.1 (hbd p hp).2).sub (Bd.mul (hbd p hp).1 hhb.2)).mono (by decide)
  refine ws_cut (fun ρ' B' => (∃ (l r f : Option Nat) (o6 o7 o8 : Option D), ρ' = [some (.tup (told.map (plp T))), some (.int (n0 : Nat)), some (plp T h), some (boN l), some (boN r), some (boN f), o6, o7, o8] ∧ WhI told h 0 l r f) ∧ B = B') ?_ ?_
  · refine ws_asg3 <| we_non ⟨⟨none, none, none, none, none, none, rfl, ⟨(fun n z => nomatch z), (fun n z => nomatch z), (fun _ j p hj => absurd hj (Nat.not_lt_zero _)), fun _ j p hj => absurd hj (Nat.not_lt_zero _)⟩⟩, rfl⟩
  rintro _ _ ⟨⟨l, r, f, o6, o7, o8, rfl, hw0⟩, rfl⟩
  refine ws_cut (fun ρ' B' => (∃ (l r f : Option Nat) (o6 o7 o8 : Option D), ρ' = [some (.tup (told.map (plp T))), some (.int (n0 : Nat)), some (plp T h), some (boN l), some (boN r), some (boN f), o6, o7, o8] ∧ WhI told h told.length l r f) ∧ B = B') ?_ ?_
  · refine ws_for_enumT <| wa_cons <| we_var rfl <| wa_nil ⟨_, rfl, fun i ρ' B' => (∃ (l r f : Option Nat) (o6 o7 o8 : Option D), ρ' = [some (.tup (told.map (plp T))), some (.int (n0 : Nat)), some (plp T h), some (boN l), some (boN r), some (boN f), o6, o7, o8] ∧ WhI told h i l r f) ∧ B = B', ⟨⟨l, r, f, o6, o7, o8, rfl, hw0⟩, rfl⟩, fun i x ρ' B' hx hI => ?_, fun ρ' B' hI => ?_⟩
    · obtain ⟨⟨l, r, f, o6, o7, o8, rfl, hw⟩, rfl⟩ := hI
      obtain ⟨p, hp, rfl⟩ := at_map hx
      have hpm := List.mem_of_getElem? hp
      have hpl := (List.getElem?_eq_some_iff.mp hp).1
      have hpb := hbd p hpm
      have tw : ∀ {E : XK} {e : EW} {B : Int} {k : KD} (q : P3), q ∈ told → k (.int (twF q p)) B → pr_Place_twist T [plp T q, plp T p] B k e := fun q hq hk => ⟨q, p, rfl, (hbd q hq).1.mono (by decide), (hbd q hq).2.mono (by decide), hpb.1.mono (by decide), hpb.2.mono (by decide), hk⟩
      refine wg_tup rfl <| wgs_cons <| wg_name <| wgs_cons <| wg_name <| wgs_nil ?_
      refine ws_seq <| ws_set <| we_meth <| we_var rfl ⟨_, _, rfl, by decide +kernel, wa_cons <| we_var rfl <| wa_nil <| tw (E := E0) h hh ?_⟩
      have at_l : ∀ {n : Nat}, n < told.length → ∃ q, told[n]? = some q ∧ q ∈ told := fun hn => ⟨_, List.getElem?_eq_getElem hn, List.getElem_mem hn⟩
      rcases Int.lt_trichotomy (twF h p) 0 with hs | hs | hs
      · rcases r with _ | q0
        · exact ws_if <| wt_and <| wt_test <| we_op <| we_var rfl <| we_int <| ro_b0 ⟨_, rfl, (fun z => absurd (of_decide_eq_true z) (by omega)), fun _ => ⟨(fun z => nomatch z), fun _ => ws_if <| wt_and <| wt_test <| we_op <| we_var rfl <| we_int <| ro_b0 ⟨_, rfl, (fun _ => wt_or <| wt_val <| we_isN <| we_var rfl ⟨_, rfl, (fun _ => ⟨(fun _ => ws_set <| we_var rfl ⟨⟨l, some i, f, _, _, _, rfl, hw.step hp (.inr ⟨rfl, fun _ => by omega⟩) (.inl rfl)⟩, rfl⟩), fun z => nomatch z⟩), fun z => nomatch z⟩), fun z => absurd (of_decide_eq_false z) (by omega)⟩⟩⟩
        · obtain ⟨q, hq, hqm⟩ := at_l (hw.r1 q0 rfl)
          exact ws_if <| wt_and <| wt_test <| we_op <| we_var rfl <| we_int <| ro_b0 ⟨_, rfl, (fun z => absurd (of_decide_eq_true z) (by omega)), fun _ => ⟨(fun z => nomatch z), fun _ => ws_if <| wt_and <| wt_test <| we_op <| we_var rfl <| we_int <| ro_b0 ⟨_, rfl, (fun _ => wt_or <| wt_val <| we_isN <| we_var rfl ⟨_, rfl, (fun z => nomatch z), fun _ => wt_test <| we_op <| we_meth <| we_op <| we_var rfl <| we_var rfl <| ro_ixT (d := plp T q) (atI_nat (by rw [List.getElem?_map, hq]; rfl)) ⟨_, _, rfl, by decide +kernel, wa_cons <| we_var rfl <| wa_nil <| tw (E := E0) q hqm <| we_int <| ro_b0 ⟨_, rfl, (fun _ => ws_set <| we_var rfl ⟨⟨l, some i, f, _, _, _, rfl, hw.step hp (.inr ⟨rfl, fun _ => by omega⟩) (.inl rfl)⟩, rfl⟩), fun _ => ws_if <| wt_and <| wt_test <| we_op <| we_var rfl <| we_int <| ro_eqI ⟨_, rfl, (fun z => absurd (of_decide_eq_true z) (by omega)), fun _ => ⟨(fun z => nomatch z), fun _ => ws_next ⟨⟨l, some q0, f, _, _, _, rfl, hw.step hp (.inr ⟨rfl, fun _ => by omega⟩) (.inr ⟨rfl, fun z => nomatch z⟩)⟩, rfl⟩⟩⟩⟩⟩⟩), fun z => absurd (of_decide_eq_false z) (by omega)⟩⟩⟩
      · refine ws_if <| wt_and <| wt_test <| we_op <| we_var rfl <| we_int <| ro_b0 ⟨_, rfl, (fun z => absurd (of_decide_eq_true z) (by omega)), fun _ => ⟨(fun z => nomatch z), fun _ => ?_⟩⟩
        refine ws_if <| wt_and <| wt_test <| we_op <| we_var rfl <| we_int <| ro_b0 ⟨_, rfl, (fun z => absurd (of_decide_eq_true z) (by omega)), fun _ => ⟨(fun z => nomatch z), fun _ => ?_⟩⟩
        exact ws_if <| wt_and <| wt_test <| we_op <| we_var rfl <| we_int <| ro_eqI ⟨_, rfl, (fun _ => wt_test <| we_op <| we_op <| we_op <| we_fx T <| we_var rfl ⟨_, _, _, rfl, we_fx T <| we_var rfl ⟨_, _, _, rfl, ro_i (cmc (hhb.1.mono (by decide)) (hpb.1.mono (by decide))) <| we_op <| we_fy T <| we_var rfl ⟨_, _, _, rfl, we_fy T <| we_var rfl ⟨_, _, _, rfl, ro_i (cmc (hhb.2.mono (by decide)) (hpb.2.mono (by decide))) <| ro_i0 <| we_int <| ro_b0 ⟨_, rfl, (fun _ => ws_set <| we_var rfl ⟨⟨l, r, some i, _, _, _, rfl, hw.step hp (.inr ⟨rfl, fun _ => by omega⟩) (.inr ⟨rfl, fun _ => by omega⟩)⟩, rfl⟩), fun _ => ws_next ⟨⟨l, r, f, _, _, _, rfl, hw.step hp (.inr ⟨rfl, fun _ => by omega⟩) (.inr ⟨rfl, fun _ => by omega⟩)⟩, rfl⟩⟩⟩⟩⟩⟩), fun z => absurd hs (of_decide_eq_false z)⟩
      · rcases l with _ | q0
        · exact ws_if <| wt_and <| wt_test <| we_op <| we_var rfl <| we_int <| ro_b0 ⟨_, rfl, (fun _ => wt_or <| wt_val <| we_isN <| we_var rfl ⟨_, rfl, (fun _ => ⟨(fun _ => ws_set <| we_var rfl ⟨⟨some i, r, f, _, _, _, rfl, hw.step hp (.inl rfl) (.inr ⟨rfl, fun _ => by omega⟩)⟩, rfl⟩), fun z => nomatch z⟩), fun z => nomatch z⟩), fun z => absurd (of_decide_eq_false z) (by omega)⟩
        · obtain ⟨q, hq, hqm⟩ := at_l (hw.l1 q0 rfl)
          exact ws_if <| wt_and <| wt_test <| we_op <| we_var rfl <| we_int <| ro_b0 ⟨_, rfl, (fun _ => wt_or <| wt_val <| we_isN <| we_var rfl ⟨_, rfl, (fun z => nomatch z), fun _ => wt_test <| we_op <| we_meth <| we_op <| we_var rfl <| we_var rfl <| ro_ixT (d := plp T q) (atI_nat (by rw [List.getElem?_map, hq]; rfl)) ⟨_, _, rfl, by decide +kernel, wa_cons <| we_var rfl <| wa_nil <| tw (E := E0) q hqm <| we_int <| ro_b0 ⟨_, rfl, (fun _ => ws_set <| we_var rfl ⟨⟨some i, r, f, _, _, _, rfl, hw.step hp (.inl rfl) (.inr ⟨rfl, fun _ => by omega⟩)⟩, rfl⟩), fun _ => ws_if <| wt_and <| wt_test <| we_op <| we_var rfl <| we_int <| ro_b0 ⟨_, rfl, (fun z => absurd (of_decide_eq_true z) (by omega)), fun _ => ⟨(fun z => nomatch z), fun _ => ws_if <| wt_and <| wt_test <| we_op <| we_var rfl <| we_int <| ro_eqI ⟨_, rfl, (fun z => absurd (of_decide_eq_true z) (by omega)), fun _ => ⟨(fun z => nomatch z), fun _ => ws_next ⟨⟨some q0, r, f, _, _, _, rfl, hw.step hp (.inr ⟨rfl, fun z => nomatch z⟩) (.inr ⟨rfl, fun _ => by omega⟩)⟩, rfl⟩⟩⟩⟩⟩⟩⟩⟩), fun z => absurd (of_decide_eq_false z) (by omega)⟩
    · obtain ⟨⟨l, r, f, o6, o7, o8, rfl, hw⟩, rfl⟩ := hI
      rw [List.length_map] at hw
      exact ⟨⟨l, r, f, _, _, _, rfl, hw⟩, rfl⟩
  rintro _ _ ⟨⟨l, r, f, o6, o7, o8, rfl, hw⟩, rfl⟩
  have up : ∃ p ∈ told, 0 < twF h p := by
    obtain ⟨p, hp, hl⟩ := har (h.2.1, -h.1) (fun z => hne (by injection z with z1 z2; rw [z1, show h.1 = 0 by omega]))
    refine ⟨p, hp, ?_⟩
    have hl : h.2.1 * p.1 + -h.1 * p.2.1 < 0 := hl
    unfold twF
    rw [Int.neg_mul, Int.mul_comm h.2.1 p.1] at hl
    omega
  have dn : ∃ p ∈ told, twF h p < 0 := by
    obtain ⟨p, hp, hl⟩ := har (-h.2.1, h.1) (fun z => hne (by injection z with z1 z2; rw [z2, show h.2.1 = 0 by omega]))
    refine ⟨p, hp, ?_⟩
    have hl : -h.2.1 * p.1 + h.1 * p.2.1 < 0 := hl
    unfold twF
    rw [Int.neg_mul, Int.mul_comm h.2.1 p.1] at hl
    omega
  obtain ⟨l0, rfl⟩ : ∃ n, l = some n := by
    cases l with
    | some n => exact ⟨n, rfl⟩
    | none =>
      obtain ⟨p, hp, hl⟩ := up
      obtain ⟨j, hj, ej⟩ := List.mem_iff_getElem.mp hp
      have := hw.l0 rfl j p hj (by rw [List.getElem?_eq_getElem hj, ej])
      omega
  obtain ⟨r0, rfl⟩ : ∃ n, r = some n := by
    cases r with
    | some n => exact ⟨n, rfl⟩
    | none =>
      obtain ⟨p, hp, hl⟩ := dn
      obtain ⟨j, hj, ej⟩ := List.mem_iff_getElem.mp hp
      have := hw.r0 rfl j p hj (by rw [List.getElem?_eq_getElem hj, ej])
      omega
  have gl := List.getElem?_eq_getElem (hw.l1 l0 rfl)
  have gr := List.getElem?_eq_getElem (hw.r1 r0 rfl)
  have bl := hbd _ (List.mem_of_getElem? gl)
  have br := hbd _ (List.mem_of_getElem? gr)
  generalize told[l0]'(hw.l1 l0 rfl) = a at gl bl
  generalize told[r0]'(hw.r1 r0 rfl) = b at gr br
  exact ws_seq <| ws_if <| wt_test <| we_op <| we_meth <| we_op <| we_var rfl <| we_var rfl <| ro_ixT (d := plp T a) (atI_nat (by rw [List.getElem?_map, gl]; rfl)) ⟨_, _, rfl, by decide +kernel, wa_cons <| we_op <| we_var rfl <| we_var rfl <| ro_ixT (d := plp T b) (atI_nat (by rw [List.getElem?_map, gr]; rfl)) <| wa_nil ⟨a, b, rfl, bl.1.mono (by decide), bl.2.mono (by decide), br.1.mono (by decide), br.2.mono (by decide), we_int <| ro_b0 ⟨_, rfl, (fun _ => ws_ret <| we_tup <| wa_cons <| we_var rfl <| wa_cons <| we_var rfl <| wa_cons <| we_var rfl <| wa_nil ⟨Nat.le_of_ble_eq_true rfl, hk _⟩), fun _ => ws_next <| ws_ret <| we_tup <| wa_cons <| we_var rfl <| wa_cons <| we_var rfl <| wa_cons <| we_var rfl <| wa_cons <| we_var rfl <| wa_nil ⟨Nat.le_of_ble_eq_true rfl, hk _⟩⟩⟩⟩
end
end AW

set_option linter.all false
set_option maxRecDepth 100000
set_option maxHeartbeats 8000000
namespace AW
open PySem PySem.Spec PyProof.Rows L2 LamX Tbl
variable [Tbs]
section
variable {P : Program} {w : World} {K : PySem.W.Frag} {mg : Str → Option Value} {base : Heap}
def pr_l_returned_right (T : Tx K mg) : Pr := fun ds B k e => ∃ (told L : List P3) (c : Int) (ls : List (Nat × Int × Nat)) (mids : List Nat), ds = [tbD T told L c ls mids] ∧ TabOk told L c ls mids ∧ (∀ p ∈ told, Bd 40000 p.1 ∧ Bd 40000 p.2.1) ∧ told.length ≤ 8 ∧ k (.bl true) B
theorem okD_l_returned_right (T : Tx K mg) : FnOk P w K mg base (L2.CX P w) 5 T.a_l_returned_right T.d_l_returned_right P_l_returned_right (spD K (pr_l_returned_right T)) := by
  refine T.F_l_returned_right.okX sc_l_returned_right (spD_len fun ds B k e h => by obtain ⟨told, L, c, ls, mids, rfl, hT, hbd, ht8, hk⟩ := h; rfl) (fun cdv A outer s H vs Q E hr h => ?_)
  have G_l_row : FnOk P w K mg base (L2.CX P w) 1 _ _ _ _ := okD_l_row T
  have G_l_table_right : FnOk P w K mg base (L2.CX P w) 4 _ _ _ _ := okD_l_table_right T
  obtain ⟨G, ds, B, k, e, hs, hR, ⟨told, L, c, ls, mids, rfl, hT, hbd, ht8, hk⟩, hK, hX⟩ := h
  refine ⟨_, (pss_cons (ps_if (PW.pt (pw_or (pt_not (pt_val (pe_callB call_isi (by rfl) T.n_isinstance (by decide +kernel) (pa_cons (pv 0) (pa_cons (pe_glob (v := .ref T.C_Table) (by rfl) T.g_C_Table rfl) pa_nil))))) (pw_or1 (pt_not (pt_val (pe_callB call_isi (by rfl) T.n_isinstance (by decide +kernel) (pa_cons (pe_fld (pv 0) rfl) (pa_cons (pe_bltn (v := .ty "tuple") (by rfl) T.n_tuple (by decide +kernel) rfl) pa_nil))))))))
 (pss_one (ps_ret pe_bl))
 pss_nil)
 (pss_cons (ps_if (pt_not (pt_val (pe_callB (cr_all rfl) (by rfl) T.n_all (by decide +kernel) (pa_cons (pe_lc (te := (tCB (rIsi K) (tCons (tVar 1) (tCons (tC (.ref T.C_Place)) tNil)))) (own := [("_law_place_here", 1)]) (g := gName 1) (by rfl) sc_l_returned_right.nd (pi_tup (pe_fld (pv 0) rfl)) (blkOk_by (own := [("_law_place_here", 1)]) (N := N_l_returned_right) (sc := defScope s_l_returned_right) (by decide +kernel)) (fun _ _ _ _ _ => pg_name (i := 1) sc_l_returned_right.nd rfl (Or.inl rfl)) (fun _ _ _ _ _ => pts_nil) (fun _ _ _ _ _ => (pe_callB call_isi (by rfl) T.n_isinstance (by decide +kernel) (pa_cons (pv 1) (pa_cons (pe_glob (v := .ref T.C_Place) (by rfl) T.g_C_Place rfl) pa_nil))))) pa_nil))))
 (pss_one (ps_ret pe_bl))
 pss_nil)
 (pss_one (ps_ret (pe_call G_l_table_right (hr.mono (by decide)) (by rfl) T.g_l_table_right T.F_l_table_right.kp T.b_l_table_right .nil passL (pa_cons (pv 0) (pa_cons (pe_lc (te := (tCall (spD K (pr_l_row T)) [] E0 (tCons (tVar 1) tNil))) (own := [("_law_place_here", 1)]) (g := gName 1) (by rfl) sc_l_returned_right.nd (pi_tup (pe_fld (pv 0) rfl)) (blkOk_by (own := [("_law_place_here", 1)]) (N := N_l_returned_right) (sc := defScope s_l_returned_right) (by decide +kernel)) (fun _ _ _ _ _ => pg_name (i := 1) sc_l_returned_right.nd rfl (Or.inl rfl)) (fun _ _ _ _ _ => pts_nil) (fun _ _ _ _ _ => (pe_call G_l_row (hr.mono (by decide)) (by rfl) T.g_l_row T.F_l_row.kp T.b_l_row .nil passL (pa_cons (pv 1) pa_nil)))) pa_nil))))))), run_body (ρ := [some (tbD T told L c ls mids), none]) hs hR hK hX rfl ?_⟩
  have zL : 1000 < sizeLine := by decide
  refine ws_cut (fun ρ' B' => ρ' = [some (tbD T told L c ls mids), none] ∧ B = B') ?_ ?_
  · exact ws_if <| wt_or <| wt_not <| wt_val <| we_isiC <| we_var rfl ⟨tyD_tb T, kit_self, _, rfl, (fun h => nomatch h), fun _ => wt_not <| wt_val <| we_isi1 <| tb_fld T rfl T.na_Table_told rfl ⟨tyD_tup, kit_tt, _, rfl, (fun h => nomatch h), fun _ => ws_next ⟨rfl, rfl⟩⟩⟩
  rintro _ _ ⟨rfl, rfl⟩
  refine ws_cut (fun ρ' B' => ρ' = [some (tbD T told L c ls mids), none] ∧ B = B') ?_ ?_
  · refine ws_if <| wt_not <| wt_val <| we_all <| wa_cons <| we_lc_tup (E1 := E0) <| tb_fld T rfl T.na_Table_told rfl ⟨_, rfl, by rw [List.length_map]; omega, fun n out B' => out = (List.replicate n true).map D.bl ∧ B = B', ⟨rfl, rfl⟩, fun n x out B' hx hI => ?_, fun out B' _ hI => ?_⟩
    · obtain ⟨rfl, rfl⟩ := hI
      obtain ⟨r, hr, rfl⟩ := at_map hx
      refine wt_yes ⟨fun _ => we_isi_Place T <| wa_cons <| we_var rfl <| wa_cons <| we_val <| wa_nil ⟨_, rfl, .inr ⟨⟨_, _, _, rfl⟩, ?_, rfl⟩⟩, fun h => nomatch h⟩
      rw [List.replicate_succ', List.map_append]
      rfl
    · obtain ⟨rfl, rfl⟩ := hI
      exact wa_nil ⟨_, rfl, _, rfl, (fun h => absurd h (by simp)), fun _ => ws_next ⟨rfl, rfl⟩⟩
  rintro _ _ ⟨rfl, rfl⟩
  refine ws_ret <| we_call <| wa_cons <| we_var rfl <| wa_cons <| we_lc_tup (E1 := E0) <| tb_fld T rfl T.na_Table_told rfl ⟨told.map (plp T), rfl, by rw [List.length_map]; omega, fun n out B' => out = (told.take n).map tpD ∧ B = B', ⟨rfl, rfl⟩, fun n x out B' hx hI => ?_, fun out B' _ hI => ?_⟩
  · obtain ⟨rfl, rfl⟩ := hI
    obtain ⟨r, hr, rfl⟩ := at_map hx
    exact wt_yes ⟨fun _ => we_call <| wa_cons <| we_var rfl <| wa_nil ⟨r, rfl, by rw [List.take_add_one, hr, List.map_append]; rfl, rfl⟩, fun h => nomatch h⟩
  · obtain ⟨rfl, rfl⟩ := hI
    rw [List.length_map, List.take_length]
    exact wa_nil ⟨told, L, c, ls, mids, rfl, hT, hbd, ht8, hk⟩
end
end AW

set_option linter.all false
set_option maxRecDepth 100000
set_option maxHeartbeats 8000000
namespace AW
open PySem PySem.Spec PyProof.Rows L2 LamX Tbl
variable [Tbs]
section
variable {P : Program} {w : World} {K : PySem.W.Frag} {mg : Str → Option Value} {base : Heap}
abbrev fwN : List Str := ["whole", "told", "half", "around", "wheel"]
abbrev fwF (T : Tx K mg) (told L : List P3) (c : Int) (ls : List (Nat × Int × Nat)) (mids : List Nat) (ws : List D) : List D := [tbD T told L c ls mids, .tup (told.map (plp T)), .non, .bl true, .tup ws]
abbrev fwD (T : Tx K mg) (told L : List P3) (c : Int) (ls : List (Nat × Int × Nat)) (mids : List Nat) (ws : List D) : D := .ins T.C_Forward fwN (fwF T told L c ls mids ws)
theorem fw_fld (T : Tx K mg) {E : XK} {e : EW} {B : Int} {i : Nat} {f : Str} {d : D} {k' : KD} {ρ : List (Option D)} {told L : List P3} {c : Int} {ls : List (Nat × Int × Nat)} {mids : List Nat} {ws : List D} (h1 : ρ[i]? = some (some (fwD T told L c ls mids ws))) (na : NoAttr K T.C_Forward f) (h2 : (fwN.zip (fwF T told L c ls mids ws)).lookup f = some d) (h3 : k' d B) : We K E e (tFld K (tVar i) f) ρ B k' := we_fld <| we_var h1 ⟨_, _, _, _, rfl, T.cl_Forward, na, h2, h3⟩
def pr_Forward_init (T : Tx K mg) : List D → Int → (List D → Int → Prop) → EW → Prop := fun ds B k e => ∃ (n m : Nat) (told : List P3), ds = [.lst (told.map (plp T))] ∧ (∀ p ∈ told, Dom .x n m p) ∧ TbOk n m told.length ∧ (∀ p ∈ told, Bd 1000 p.1 ∧ Bd 1000 p.2.1) ∧ Around told ∧ ∀ L c ls mids ws, TabOk told L c ls mids → k (fwF T told L c ls mids ws) B
theorem okD_Forward_init (T : Tx K mg) : FnOk P w K mg base (L2.CX P w) 14 T.a_Forward_init T.d_Forward_init P_Forward_init (spI K T.C_Forward fwN (pr_Forward_init T)) := by
  have G_Table_init : FnOk P w K mg base (L2.CX P w) 12 _ _ _ _ := okD_Table_init T
  have G_half_of : FnOk P w K mg base (L2.CX P w) 2 _ _ _ _ := okD_half_of T
  have G_wheel_of : FnOk P w K mg base (L2.CX P w) 6 _ _ _ _ := okD_wheel_of T
  refine T.F_Forward_init.okX sc_Forward_init (fun vs H Q E h => ?_) (fun cdv A outer s H vs Q E hr h => ?_)
  · obtain ⟨p, dx, ws, G, ds, B, k, e, rfl, hp, gp, gdx, ne, hd, hs, hR, ⟨n, m, told, rfl, _⟩, hK, hX⟩ := h
    rw [List.length_cons, ← hR.length]
    rfl
  · obtain ⟨p, dx, ws, G, ds, B, k, e, rfl, hp, gp, gdx, ne, hd, hs, hR, ⟨n, m, told, rfl, hdom, hok, hbd, har, hk⟩, hK, hX⟩ := h
    have ht8 := hok.1
    have n1 : ∀ q ∈ ([("whole" : Str)] : List Str), q ≠ ("told" : Str) := by decide +kernel
    have n2 : ∀ q ∈ ([("whole" : Str), "told"] : List Str), q ≠ ("half" : Str) := by decide +kernel
    have n3 : ∀ q ∈ ([("whole" : Str), "told", "half"] : List Str), q ≠ ("around" : Str) := by decide +kernel
    have n4 : ∀ q ∈ ([("whole" : Str), "told", "half", "around"] : List Str), q ≠ ("wheel" : Str) := by decide +kernel
    refine ⟨_, (pss_cons (ps_fld (pv 0) (pe_make T.M_Table G_Table_init (hr.mono (by decide)) (by rfl) T.g_C_Table T.b_Table_init .nil passL (pa_cons (pv 1) pa_nil)) rfl)
 (pss_cons (ps_fld (pv 0) (pe_fld (pe_fld (pv 0) rfl) rfl) rfl)
 (pss_cons (ps_fld (pv 0) (pe_call G_half_of (hr.mono (by decide)) (by rfl) T.g_half_of T.F_half_of.kp T.b_half_of .nil passL (pa_cons (pe_fld (pv 0) rfl) pa_nil)) rfl)
 (pss_cons (ps_fld (pv 0) (pe_cmp (pc_isN (pe_fld (pv 0) rfl)) rfl) rfl)
 (pss_one (ps_fld (pv 0) (pe_ifExp (pt_val (pe_fld (pv 0) rfl)) (pe_call G_wheel_of (hr.mono (by decide)) (by rfl) T.g_wheel_of T.F_wheel_of.kp T.b_wheel_of .nil passL (pa_cons (pe_fld (pv 0) rfl) pa_nil)) pe_non) rfl)))))), run_init (kf := fun fs O' B' => fs.map (·.1) = fwN ∧ k (fs.map (·.2)) B') hp gp hs hR rfl (fun fs us O' B' G' H' hf ex g2 h2 hr2 ow2 hpn => ?_) ?_⟩
    · obtain ⟨e1, hf⟩ := hf
      rw [e1] at h2
      refine hK _ us B' G' H' hf ex.le ex.sub (fun a o z n nb nt => ex.fr a o (by rw [hide1 nb]; exact z) n nt) g2 h2 ?_ hr2
      have h3 := hr2.length
      have h4 := congrArg List.length e1
      rw [List.length_map] at h3 h4
      show 5 = _
      exact h4.symm.trans h3
    · refine wx_cut (fun ρ' O' B' => ∃ (L : List P3) (c : Int) (ls : List (Nat × Int × Nat)) (mids : List Nat), ρ' = [some (.val (.ref p)), some (.lst (told.map (plp T)))] ∧ O' = [(p, .obj T.C_Forward dx [("whole", tbD T told L c ls mids)])] ∧ B = B' ∧ TabOk told L c ls mids) ?_ ?_
      · exact wx_fldS (i := 0) (C := T.C_Forward) (dx := dx) rfl <| wew_we <| we_make <| wa_cons <| we_var rfl <| wa_nil ⟨n, m, told, rfl, hdom, hok, fun L c ls mids hT => ⟨0, [], rfl, T.cl_Forward, T.na_Forward_whole, by decide, (fun q hq => nomatch hq), L, c, ls, mids, rfl, rfl, rfl, hT⟩⟩
      rintro _ _ _ ⟨L, c, ls, mids, rfl, rfl, rfl, hT⟩
      refine wx_cut (fun ρ' O' B' => ρ' = [some (.val (.ref p)), some (.lst (told.map (plp T)))] ∧ O' = [(p, .obj T.C_Forward dx [("whole", tbD T told L c ls mids), ("told", .tup (told.map (plp T)))])] ∧ B = B') ?_ ?_
      · exact wx_fldS (i := 0) (C := T.C_Forward) (dx := dx) rfl <| wew_fldG <| wew_fldS (i := 0) (n := 0) rfl rfl T.cl_Forward T.na_Forward_whole rfl ⟨_, _, _, _, rfl, T.cl_Table, T.na_Table_told, rfl, 0, _, rfl, T.cl_Forward, T.na_Forward_told, by simp, n1, rfl, rfl, rfl⟩
      rintro _ _ _ ⟨rfl, rfl, rfl⟩
      refine wx_cut (fun ρ' O' B' => ρ' = [some (.val (.ref p)), some (.lst (told.map (plp T)))] ∧ O' = [(p, .obj T.C_Forward dx [("whole", tbD T told L c ls mids), ("told", .tup (told.map (plp T))), ("half", .non)])] ∧ B = B') ?_ ?_
      · exact wx_fldS (i := 0) (C := T.C_Forward) (dx := dx) rfl <| wew_callD <| waw_cons <| wew_fldS (i := 0) (n := 0) rfl rfl T.cl_Forward T.na_Forward_told rfl <| waw_nil ⟨told, rfl, by omega, hbd, har, 0, _, rfl, T.cl_Forward, T.na_Forward_half, by simp, n2, rfl, rfl, rfl⟩
      rintro _ _ _ ⟨rfl, rfl, rfl⟩
      refine wx_cut (fun ρ' O' B' => ρ' = [some (.val (.ref p)), some (.lst (told.map (plp T)))] ∧ O' = [(p, .obj T.C_Forward dx [("whole", tbD T told L c ls mids), ("told", .tup (told.map (plp T))), ("half", .non), ("around", .bl true)])] ∧ B = B') ?_ ?_
      · exact wx_fldS (i := 0) (C := T.C_Forward) (dx := dx) rfl <| wew_isN <| wew_fldS (i := 0) (n := 0) rfl rfl T.cl_Forward T.na_Forward_half rfl ⟨0, _, rfl, T.cl_Forward, T.na_Forward_around, by simp, n3, rfl, rfl, rfl⟩
      rintro _ _ _ ⟨rfl, rfl, rfl⟩
      refine wx_fldS (i := 0) (C := T.C_Forward) (dx := dx) rfl <| wew_ifE <| wtw_val <| wew_fldS (i := 0) (n := 0) rfl rfl T.cl_Forward T.na_Forward_around rfl ⟨_, rfl, (fun _ => ?_), fun z => nomatch z⟩
      exact wew_callD <| waw_cons <| wew_fldS (i := 0) (n := 0) rfl rfl T.cl_Forward T.na_Forward_told rfl <| waw_nil ⟨told, rfl, by omega, hbd, har, fun ws => ⟨0, _, rfl, T.cl_Forward, T.na_Forward_wheel, by simp, n4, 0, _, rfl, rfl, hk L c ls mids ws hT⟩⟩
def pr_Forward_table (T : Tx K mg) : Pr := fun ds B k e => ∃ (told L : List P3) (c : Int) (ls : List (Nat × Int × Nat)) (mids : List Nat) (ws : List D), ds = [fwD T told L c ls mids ws] ∧ k (tbD T told L c ls mids) B
theorem okD_Forward_table (T : Tx K mg) : FnOk P w K mg base (L2.CX P w) 1 T.a_Forward_table T.d_Forward_table P_Forward_table (spD K (pr_Forward_table T)) := by
  refine T.F_Forward_table.okX sc_Forward_table (spD_len fun ds B k e h => by obtain ⟨told, L, c, ls, mids, ws, rfl, hk⟩ := h; rfl) (fun cdv A outer s H vs Q E hr h => ?_)
  obtain ⟨G, ds, B, k, e, hs, hR, ⟨told, L, c, ls, mids, ws, rfl, hk⟩, hK, hX⟩ := h
  refine ⟨_, (pss_one (ps_ret (pe_fld (pv 0) rfl))), run_body (ρ := [some (fwD T told L c ls mids ws)]) hs hR hK hX rfl ?_⟩
  exact ws_ret <| fw_fld T rfl T.na_Forward_whole rfl hk
def pr_Forward_check_reach (T : Tx K mg) : Pr := fun ds B k e => ∃ (told L : List P3) (c : Int) (ls : List (Nat × Int × Nat)) (mids : List Nat) (ws : List D) (p : P3), ds = [fwD T told L c ls mids ws, plp T p] ∧ k .non B
theorem okD_Forward_check_reach (T : Tx K mg) : FnOk P w K mg base (L2.CX P w) 5 T.a_Forward_check_reach T.d_Forward_check_reach P_Forward_check_reach (spD K (pr_Forward_check_reach T)) := by
  refine T.F_Forward_check_reach.okX sc_Forward_check_reach (spD_len fun ds B k e h => by obtain ⟨told, L, c, ls, mids, ws, p, rfl, hk⟩ := h; rfl) (fun cdv A outer s H vs Q E hr h => ?_)
  have G_check_place : FnOk P w K mg base (L2.CX P w) _ _ _ _ _ := okD_check_place T
  obtain ⟨G, ds, B, k, e, hs, hR, ⟨told, L, c, ls, mids, ws, p, rfl, hk⟩, hK, hX⟩ := h
  refine ⟨_, (pss_cons (ps_expr (pe_call G_check_place (hr.mono (by decide)) (by rfl) T.g_check_place T.F_check_place.kp T.b_check_place .nil passL (pa_cons (pv 1) pa_nil)))
 (pss_one (ps_if (pt_not (pt_val (pe_fld (pv 0) rfl)))
 (pss_one ps_never)
 pss_nil))), run_body (ρ := [some (fwD T told L c ls mids ws), some (plp T p)]) hs hR hK hX rfl ?_⟩
  refine ws_seq <| ws_drop <| we_call <| wa_cons <| we_var rfl <| wa_nil ⟨_, rfl, .inl ⟨_, _, _, rfl, ?_⟩⟩
  exact ws_if <| wt_not <| wt_val <| fw_fld T rfl T.na_Forward_around rfl ⟨_, rfl, (fun h => nomatch h), fun _ => ws_next hk⟩
def pr_Forward_has (T : Tx K mg) : Pr := fun ds B k e => ∃ (n M : Nat) (told L : List P3) (c : Int) (ls : List (Nat × Int × Nat)) (mids : List Nat) (ws : List D) (p : P3), ds = [fwD T told L c ls mids ws, plp T p] ∧ Tb n L c ∧ n ≤ 4000 ∧ M ≤ 40000 ∧ Bd M p.1 ∧ Bd M p.2.1 ∧ ∀ b : Bool, (b = true ↔ InT L c p) → k (.bl b) B
theorem okD_Forward_has (T : Tx K mg) : FnOk P w K mg base (L2.CX P w) 11 T.a_Forward_has T.d_Forward_has P_Forward_has (spD K (pr_Forward_has T)) := by
  refine T.F_Forward_has.okX sc_Forward_has (spD_len fun ds B k e h => by obtain ⟨n, M, told, L, c, ls, mids, ws, p, rfl, hT, hn, hM, b1, b2, hk⟩ := h; rfl) (fun cdv A outer s H vs Q E hr h => ?_)
  have G_Forward_check_reach : FnOk P w K mg base (L2.CX P w) 5 _ _ _ _ := okD_Forward_check_reach T
  have G_Table_contains : FnOk P w K mg base (L2.CX P w) 10 _ _ _ _ := okD_Table_contains T
  obtain ⟨G, ds, B, k, e, hs, hR, ⟨n, M, told, L, c, ls, mids, ws, p, rfl, hT, hn, hM, b1, b2, hk⟩, hK, hX⟩ := h
  refine ⟨_, (pss_cons (ps_expr (pe_meth (pv 0) T.cl_Forward T.M_Forward_check_reach G_Forward_check_reach (hr.mono (by decide)) T.b_Forward_check_reach .nil passL (pa_cons (pv 1) pa_nil)))
 (pss_one (ps_ret (pe_cmpR (op_inO T.M_Table_contains.at_ T.M_Table_contains.fn G_Table_contains (hr.mono (by decide)) T.b_Table_contains passL) (pv 1) (pe_fld (pv 0) rfl) (by rfl))))), run_body (ρ := [some (fwD T told L c ls mids ws), some (plp T p)]) hs hR hK hX rfl ?_⟩
  refine ws_seq <| ws_drop <| we_meth <| we_var rfl ⟨_, _, rfl, by decide +kernel, wa_cons <| we_var rfl <| wa_nil ⟨told, L, c, ls, mids, ws, p, rfl, ?_⟩⟩
  exact ws_ret <| we_op <| we_var rfl <| fw_fld T rfl T.na_Forward_whole rfl <| ro_inG ⟨n, M, told, L, c, ls, mids, p, rfl, hT, hn, hM, b1, b2, fun b hb => ⟨b, rfl, hk b hb⟩⟩
end
end AW

set_option linter.all false
set_option maxRecDepth 100000
set_option maxHeartbeats 8000000
namespace AW
open PySem PySem.Spec PyProof.Rows L2 LamX Tbl
variable [Tbs]
section
variable {P : Program} {w : World} {K : PySem.W.Frag} {mg : Str → Option Value} {base : Heap}
theorem er_map {α β : Type} (f : α → β) : ∀ (l : List α) (c : Nat), (l.map f).eraseIdx c = (l.eraseIdx c).map f
  | [], _ => rfl
  | _ :: _, 0 => rfl
  | a :: l, c + 1 => by show f a :: (l.map f).eraseIdx c = _; rw [er_map f l c]; rfl
theorem mem_erase2 {α : Type} {l : List α} {c : Nat} {x y : α} (h : l[c]? = some y) : x ∈ l ↔ x = y ∨ x ∈ l.eraseIdx c := by
  obtain ⟨hc, hy⟩ := List.getElem?_eq_some_iff.mp h
  have e : l = l.take c ++ (y :: l.drop (c + 1)) := by rw [← hy, ← List.drop_eq_getElem_cons hc, List.take_append_drop]
  rw [List.eraseIdx_eq_take_drop_succ]
  conv => lhs; rw [e]
  simp only [List.mem_append, List.mem_cons]
  constructor
  · rintro (h | h | h)
    · exact .inr (.inl h)
    · exact .inl h
    · exact .inr (.inr h)
  · rintro (h | h | h)
    · exact .inr (.inl h)
    · exact .inl h
    · exact .inr (.inr h)
def pr_l_shuffled (T : Tx K mg) : Pr := fun ds B k e => ∃ W : List P3, ds = [penF, .lst (W.map tpD)] ∧ W.length ≤ 20 ∧ B ≤ 900000 ∧ ∀ (M : List P3) B', M.length = W.length → (∀ x, x ∈ W ↔ x ∈ M) → B' ≤ B + 20 → k (.lst (M.map tpD)) B'
theorem okD_l_shuffled (T : Tx K mg) : FnOk P w K mg base (L2.CX P w) 4 T.a_l_shuffled T.d_l_shuffled P_l_shuffled (spD K (pr_l_shuffled T)) := by
  refine T.F_l_shuffled.okX sc_l_shuffled (spD_len fun ds B k e h => by obtain ⟨W, rfl, hWl, hB, hk⟩ := h; rfl) (fun cdv A outer s H vs Q E hr h => ?_)
  have G_l_draw : FnOk P w K mg base (L2.CX P w) 1 _ _ _ _ := okD_l_draw T
  obtain ⟨G, ds, B, k, e, hs, hR, ⟨W, rfl, hWl, hB, hk⟩, hK, hX⟩ := h
  refine ⟨_, (pss_cons (ps_par (i := 2) (j := 3) (by rfl) sc_l_shuffled.nd rfl rfl (by decide) rfl rfl (pa_cons (pe_callTy call_list_of (by rfl) T.n_list (by decide +kernel) (pa_cons (pv 1) pa_nil)) (pa_cons (pe_lst pa_nil) pa_nil)) (by rfl))
 (pss_cons (ps_for (passes_of rfl) rfl (pi_range1 (by rfl) T.n_range (pa_cons (pe_callB call_len_seq (by rfl) T.n_len (by decide +kernel) (pa_cons (pv 1) pa_nil)) pa_nil)) (pg_name (i := 4) sc_l_shuffled.nd rfl (.inl rfl))
 (pss_one (ps_expr (pe_bm PySem.F.plainAttrs_list PySem.F.slot_list_append PySem.F.type_list_append mt_append (pv 3) (pa_cons (pe_bm PySem.F.plainAttrs_list PySem.F.slot_list_pop PySem.F.type_list_pop mt_popAt (pv 2) (pa_cons (pe_call G_l_draw (hr.mono (by decide)) (by rfl) T.g_l_draw T.F_l_draw.kp T.b_l_draw .nil passL (pa_cons (pv 0) (pa_cons (pe_callB call_len_seq (by rfl) T.n_len (by decide +kernel) (pa_cons (pv 2) pa_nil)) pa_nil))) pa_nil)) pa_nil)))))
 (pss_one (ps_ret (pv 3))))), run_body (ρ := [some penF, some (.lst (W.map tpD)), none, none, none]) hs hR hK hX rfl ?_⟩
  have zL : 1000 < sizeLine := by decide
  refine wx_own ?_
  refine wx_cut (fun ρ' O' B' => (∃ p q, ρ' = [some penF, some (.lst (W.map tpD)), some (.val (.ref p)), some (.val (.ref q)), none] ∧ O' = [(q, .list []), (p, .list (W.map tpD))]) ∧ B = B') ?_ ?_
  · exact wx_parW <| waw_cons <| wew_copyL <| wa_cons <| we_var rfl <| wa_nil ⟨_, rfl, fun p => waw_cons <| wew_newlst <| wa_nil ⟨Nat.zero_le _, fun q => waw_nil ⟨_, _, rfl, ⟨p, q, rfl, rfl⟩, rfl⟩⟩⟩
  rintro _ _ _ ⟨⟨p, q, rfl, rfl⟩, rfl⟩
  refine wx_cut (fun ρ' O' B' => (∃ (M : List P3) (o7 : Option D), ρ' = [some penF, some (.lst (W.map tpD)), some (.val (.ref p)), some (.val (.ref q)), o7] ∧ O' = [(q, .list (M.map tpD)), (p, .list [])] ∧ M.length = W.length ∧ ∀ x, x ∈ W ↔ x ∈ M) ∧ B' ≤ B + 20) ?_ ?_
  · refine wx_for_range1 <| wa_cons <| we_lenL <| wa_cons <| we_var rfl <| wa_nil ⟨_, rfl, wa_nil ⟨_, rfl, by rw [List.length_map]; omega, by rw [List.length_map]; omega, fun k ρ' O' B' => (∃ (Lf M : List P3) (o7 : Option D), ρ' = [some penF, some (.lst (W.map tpD)), some (.val (.ref p)), some (.val (.ref q)), o7] ∧ O' = [(q, .list (M.map tpD)), (p, .list (Lf.map tpD))] ∧ M.length = k ∧ Lf.length + k = W.length ∧ ∀ x, x ∈ W ↔ x ∈ M ∨ x ∈ Lf) ∧ B' ≤ B + (k : Int), ⟨⟨W, [], none, rfl, rfl, rfl, rfl, fun x => by simp⟩, by omega⟩, fun k ρ' O' B' hk1 hI => ?_, fun ρ' O' B' hI => ?_⟩⟩
    · obtain ⟨⟨Lf, M, o7, rfl, rfl, hM, hLf, hx⟩, hB'⟩ := hI
      rw [List.length_map] at hk1
      have hk1 : k < W.length := hk1
      refine wg_name <| wx_appV <| we_var rfl ⟨q, rfl, ⟨_, List.mem_cons_self ..⟩, wew_popAt <| we_var rfl ⟨p, rfl, ⟨_, List.mem_cons_of_mem _ (List.mem_cons_self ..)⟩, wew_callD <| waw_cons <| wew_we <| we_var rfl <| waw_cons <| wew_lenV <| we_var rfl ⟨p, 1, _, rfl, rfl, waw_nil ⟨_, rfl, by rw [List.length_map]; omega, bdl (by rw [List.length_map]; omega), by omega, fun d d0 d1 => ?_⟩⟩⟩⟩
      rw [List.length_map] at d1
      obtain ⟨ci, rfl⟩ := Int.eq_ofNat_of_zero_le d0
      have hci : ci < Lf.length := by omega
      refine ⟨1, ci, Lf.map tpD, tpD Lf[ci], rfl, by omega, rfl, by rw [List.getElem?_map, List.getElem?_eq_getElem hci]; rfl, ?_⟩
      rw [er_map]
      refine ⟨0, _, rfl, by rw [List.length_map]; omega, ⟨Lf.eraseIdx ci, M ++ [Lf[ci]], _, rfl, by rw [List.map_append]; rfl, by rw [List.length_append, hM]; rfl, ?_, fun x => ?_⟩, by push_cast; omega⟩
      · rw [List.length_eraseIdx, if_pos hci]; omega
      · rw [hx x, mem_erase2 (x := x) (List.getElem?_eq_getElem hci)]
        simp only [List.mem_append, List.mem_singleton]
        constructor
        · rintro (h | h | h)
          · exact .inl (.inl h)
          · exact .inl (.inr h)
          · exact .inr h
        · rintro ((h | h) | h)
          · exact .inl h
          · exact .inr (.inl h)
          · exact .inr (.inr h)
    · obtain ⟨⟨Lf, M, o7, rfl, rfl, hM, hLf, hx⟩, hB'⟩ := hI
      rw [List.length_map] at hM hLf hB'
      have hM : M.length = W.length := hM
      have hLf : Lf.length + W.length = W.length := hLf
      have e : Lf = [] := List.eq_nil_of_length_eq_zero (by omega)
      subst e
      have hB'' : B' ≤ B + ((W.length : Nat) : Int) := hB'
      exact ⟨⟨M, _, rfl, rfl, hM, fun x => by rw [hx x]; simp⟩, by omega⟩
  rintro _ _ B3 ⟨⟨M, o7, rfl, rfl, hM, hx⟩, hB3⟩
  exact wx_tell (i := 3) rfl <| wx_tell (i := 2) rfl <| wx_ws <| ws_ret <| we_var rfl <| hk M B3 hM hx hB3
end
end AW

set_option linter.all false
set_option maxRecDepth 100000
set_option maxHeartbeats 8000000
namespace AW
open PySem PySem.Spec PyProof.Rows L2 LamX Tbl
variable [Tbs]
section
variable {P : Program} {w : World} {K : PySem.W.Frag} {mg : Str → Option Value} {base : Heap}
def Rd9 (p : P3) : Prop := ab p.1 ≤ 1000000000 ∧ ab p.2.1 ≤ 1000000000 ∧ ab p.2.2 ≤ 1000000000
theorem around_of {M : List P3} (E : List (Int × Int)) (hE : ∀ f : Int × Int, f ≠ (0, 0) → ∃ e ∈ E, f.1 * e.1 + f.2 * e.2 < 0) (hM : ∀ e ∈ E, ∃ p ∈ M, p.1 = e.1 ∧ p.2.1 = e.2) : Around M := fun f hf => by
  obtain ⟨e, he, hl⟩ := hE f hf
  obtain ⟨p, hp, e1, e2⟩ := hM e he
  refine ⟨p, hp, ?_⟩
  unfold fvF
  rw [e1, e2]
  exact hl
theorem Around.mem {M W : List P3} (h : Around W) (hm : ∀ x, x ∈ W → x ∈ M) : Around M := fun f hf => let ⟨p, hp, hl⟩ := h f hf; ⟨p, hm p hp, hl⟩
theorem ends1 {p q r s : Int} (hp : 0 < p) (hq : 0 < q) (hr : 0 < r) (hs : 0 < s) : ∀ f : Int × Int, f ≠ (0, 0) → ∃ e ∈ [(p, -q), (0, r), (-s, 0)], f.1 * e.1 + f.2 * e.2 < 0 := by
  rintro ⟨u, v⟩ hf
  by_cases hv : v < 0
  · refine ⟨(0, r), by simp, ?_⟩
    show u * 0 + v * r < 0
    have := Int.mul_neg_of_neg_of_pos hv hr
    omega
  by_cases hu : 0 < u
  · refine ⟨(-s, 0), by simp, ?_⟩
    show u * -s + v * 0 < 0
    have := Int.mul_pos hu hs
    rw [Int.mul_neg]
    omega
  refine ⟨(p, -q), by simp, ?_⟩
  show u * p + v * -q < 0
  rw [Int.mul_neg]
  have h1 : u * p ≤ 0 := by
    have := Int.mul_nonneg (show 0 ≤ -u by omega) (show 0 ≤ p by omega)
    rw [Int.neg_mul] at this
    omega
  have h2 : 0 ≤ v * q := Int.mul_nonneg (by omega) (by omega)
  by_cases u0 : u = 0
  · have : 0 < v := by
      rcases Int.lt_trichotomy v 0 with z | z | z
      · omega
      · exact absurd (by rw [u0, z]) hf
      · exact z
    have := Int.mul_pos this hq
    omega
  · have := Int.mul_neg_of_neg_of_pos (show u < 0 by omega) hp
    omega
theorem ends2 {p q r s : Int} (hp : 0 < p) (hq : 0 < q) (hr : 0 < r) (hs : 0 < s) : ∀ f : Int × Int, f ≠ (0, 0) → ∃ e ∈ [(p, 0), (-q, 0), (0, r), (0, -s)], f.1 * e.1 + f.2 * e.2 < 0 := by
  rintro ⟨u, v⟩ hf
  by_cases h1 : u < 0
  · refine ⟨(p, 0), by simp, ?_⟩
    show u * p + v * 0 < 0
    have := Int.mul_neg_of_neg_of_pos h1 hp
    omega
  by_cases h2 : 0 < u
  · refine ⟨(-q, 0), by simp, ?_⟩
    show u * -q + v * 0 < 0
    have := Int.mul_pos h2 hq
    rw [Int.mul_neg]
    omega
  by_cases h3 : v < 0
  · refine ⟨(0, r), by simp, ?_⟩
    show u * 0 + v * r < 0
    have := Int.mul_neg_of_neg_of_pos h3 hr
    omega
  refine ⟨(0, -s), by simp, ?_⟩
  show u * 0 + v * -s < 0
  have : 0 < v := by
    rcases Int.lt_trichotomy v 0 with z | z | z
    · omega
    · exact absurd (by rw [z, show u = 0 by omega]) hf
    · exact z
  have := Int.mul_pos this hs
  rw [Int.mul_neg]
  omega
theorem ends3 : ∀ f : Int × Int, f ≠ (0, 0) → ∃ e ∈ [((1 : Int), (0 : Int)), (0, 1), (-1, -1)], f.1 * e.1 + f.2 * e.2 < 0 := by
  rintro ⟨u, v⟩ hf
  by_cases h1 : u < 0
  · exact ⟨(1, 0), by simp, by show u * 1 + v * 0 < 0; omega⟩
  by_cases h2 : v < 0
  · exact ⟨(0, 1), by simp, by show u * 0 + v * 1 < 0; omega⟩
  refine ⟨(-1, -1), by simp, ?_⟩
  show u * -1 + v * -1 < 0
  by_cases u0 : u = 0
  · have : v ≠ 0 := fun z => hf (by rw [u0, z])
    omega
  · omega
abbrev edD (e : Int × Int) : D := t2 e.1 e.2
def pr_l_round (T : Tx K mg) : Pr := fun ds B k e => ds = [penF, .int 9] ∧ B ≤ 700000 ∧ ∀ (M : List P3) B', 3 ≤ M.length → M.length ≤ 8 → (∀ p ∈ M, Rd9 p) → Around M → B' ≤ B + 2000 → k (.lst (M.map tpD)) B'
theorem okD_l_round (T : Tx K mg) : FnOk P w K mg base (L2.CX P w) 6 T.a_l_round T.d_l_round P_l_round (spD K (pr_l_round T)) := by
  refine T.F_l_round.okX sc_l_round (spD_len fun ds B k e h => by obtain ⟨rfl, hB, hk⟩ := h; rfl) (fun cdv A outer s H vs Q E hr h => ?_)
  have G_l_draw : FnOk P w K mg base (L2.CX P w) 1 _ _ _ _ := okD_l_draw T
  have G_l_number : FnOk P w K mg base (L2.CX P w) 4 _ _ _ _ := okD_l_number T
  have G_l_pick : FnOk P w K mg base (L2.CX P w) 2 _ _ _ _ := okD_l_pick T
  have G_l_shuffled : FnOk P w K mg base (L2.CX P w) 4 _ _ _ _ := okD_l_shuffled T
  have G_l_size : FnOk P w K mg base (L2.CX P w) 3 _ _ _ _ := okD_l_size T
  obtain ⟨G, ds, B, k, e, hs, hR, ⟨rfl, hB, hk⟩, hK, hX⟩ := h
  refine ⟨_, (pss_cons (ps_asg (pe_lc (te := (tOp (rI0 fun i j => V.int (i + j)) (tC (.int 1)) (tCall (spD K (pr_l_size T)) [] E0 (tCons (tVar 0) (tCons (tVar 1) tNil))))) (own := [("_law_k", 8)]) (g := gName 8) (by rfl) sc_l_round.nd (pi_range1 (by rfl) T.n_range (pa_cons pe_int pa_nil)) (blkOk_by (own := [("_law_k", 8)]) (N := N_l_round) (sc := defScope s_l_round) (by decide +kernel)) (fun _ _ _ _ _ => pg_name (i := 8) sc_l_round.nd rfl (Or.inl rfl)) (fun _ _ _ _ _ => pts_nil) (fun _ _ _ _ _ => (pe_op op_add pe_int (pe_call G_l_size (hr.mono (by decide)) (by rfl) T.g_l_size T.F_l_size.kp T.b_l_size .nil passL (pa_cons (pv 0) (pa_cons (pv 1) pa_nil)))))) (pg_unl rfl (pgs_cons (pg_name (i := 2) sc_l_round.nd rfl (.inl rfl)) (pgs_cons (pg_name (i := 3) sc_l_round.nd rfl (.inl rfl)) (pgs_cons (pg_name (i := 4) sc_l_round.nd rfl (.inl rfl)) (pgs_cons (pg_name (i := 5) sc_l_round.nd rfl (.inl rfl)) pgs_nil))))))
 (pss_cons (ps_set (i := 6) sc_l_round.nd rfl (.inl rfl) (pe_call G_l_pick (hr.mono (by decide)) (by rfl) T.g_l_pick T.F_l_pick.kp T.b_l_pick .nil passL (pa_cons (pv 0) (pa_cons (pe_lst (pa_cons (pe_lst (pa_cons (pe_tup (pa_cons (pv 2) (pa_cons (pe_un un_neg (pv 3)) pa_nil))) (pa_cons (pe_tup (pa_cons pe_int (pa_cons (pv 4) pa_nil))) (pa_cons (pe_tup (pa_cons (pe_un un_neg (pv 5)) (pa_cons pe_int pa_nil))) pa_nil)))) (pa_cons (pe_lst (pa_cons (pe_tup (pa_cons (pv 2) (pa_cons pe_int pa_nil))) (pa_cons (pe_tup (pa_cons (pe_un un_neg (pv 3)) (pa_cons pe_int pa_nil))) (pa_cons (pe_tup (pa_cons pe_int (pa_cons (pv 4) pa_nil))) (pa_cons (pe_tup (pa_cons pe_int (pa_cons (pe_un un_neg (pv 5)) pa_nil))) pa_nil))))) (pa_cons (pe_lst (pa_cons (pe_tup (pa_cons pe_int (pa_cons pe_int pa_nil))) (pa_cons (pe_tup (pa_cons pe_int (pa_cons pe_int pa_nil))) (pa_cons (pe_tup (pa_cons (pe_un un_neg pe_int) (pa_cons (pe_un un_neg pe_int) pa_nil))) pa_nil)))) pa_nil)))) pa_nil))))
 (pss_cons (ps_setLc (i := 7) (te := (tTup (tCons (tOp (rIxT K) (tVar 9) (tC (.int 0))) (tCons (tOp (rIxT K) (tVar 9) (tC (.int 1))) (tCons (tCall (spD K (pr_l_number T)) [] E0 (tCons (tVar 0) (tCons (tVar 1) tNil))) tNil))))) (own := [("_law_end", 9)]) (g := gName 9) (by rfl) sc_l_round.nd rfl rfl (sw_true rfl rfl rfl (by decide +kernel)) (pi_list (pv 6)) (blkOk_by (own := [("_law_end", 9)]) (N := N_l_round) (sc := defScope s_l_round) (by decide +kernel)) (fun _ _ _ _ _ => pg_name (i := 9) sc_l_round.nd rfl (Or.inl rfl)) (fun _ _ _ _ _ => pts_nil) (fun _ _ _ _ _ => (pe_tup (pa_cons (pe_ix ix_tup (pv 9) pe_int (fun _ _ => rfl)) (pa_cons (pe_ix ix_tup (pv 9) pe_int (fun _ _ => rfl)) (pa_cons (pe_call G_l_number (hr.mono (by decide)) (by rfl) T.g_l_number T.F_l_number.kp T.b_l_number .nil passL (pa_cons (pv 0) (pa_cons (pv 1) pa_nil))) pa_nil))))))
 (pss_cons (ps_for (passes_of rfl) rfl (pi_range1 (by rfl) T.n_range (pa_cons (pe_call G_l_draw (hr.mono (by decide)) (by rfl) T.g_l_draw T.F_l_draw.kp T.b_l_draw .nil passL (pa_cons (pv 0) (pa_cons (pe_op op_sub pe_int (pe_callB call_len_seq (by rfl) T.n_len (by decide +kernel) (pa_cons (pv 7) pa_nil))) pa_nil))) pa_nil)) (pg_name (i := 8) sc_l_round.nd rfl (.inl rfl))
 (pss_one (ps_expr (pe_bm PySem.F.plainAttrs_list PySem.F.slot_list_append PySem.F.type_list_append mt_append (pv 7) (pa_cons (pe_tup (pa_cons (pe_call G_l_number (hr.mono (by decide)) (by rfl) T.g_l_number T.F_l_number.kp T.b_l_number .nil passL (pa_cons (pv 0) (pa_cons (pv 1) pa_nil))) (pa_cons (pe_call G_l_number (hr.mono (by decide)) (by rfl) T.g_l_number T.F_l_number.kp T.b_l_number .nil passL (pa_cons (pv 0) (pa_cons (pv 1) pa_nil))) (pa_cons (pe_call G_l_number (hr.mono (by decide)) (by rfl) T.g_l_number T.F_l_number.kp T.b_l_number .nil passL (pa_cons (pv 0) (pa_cons (pv 1) pa_nil))) pa_nil)))) pa_nil)))))
 (pss_one (ps_ret (pe_call G_l_shuffled (hr.mono (by decide)) (by rfl) T.g_l_shuffled T.F_l_shuffled.kp T.b_l_shuffled .nil passL (pa_cons (pv 0) (pa_cons (pv 7) pa_nil))))))))), run_body (ρ := [some penF, some (.int 9), none, none, none, none, none, none, none, none]) hs hR hK hX rfl ?_⟩
  have zL : 1000 < sizeLine := by decide
  have z2 : 2 ≤ sizeLine := by decide
  have z3 : 3 ≤ sizeLine := by decide
  have z4 : 4 ≤ sizeLine := by decide
  have t9 : (10 : Int) ^ 9 = 1000000000 := by decide
  have t9n : (10 : Nat) ^ 9 = 1000000000 := by decide
  refine ws_cut (fun ρ' B' => (∃ p q r s : Int, ρ' = [some penF, some (.int 9), some (.int p), some (.int q), some (.int r), some (.int s), none, none, none, none] ∧ ∀ n ∈ [p, q, r, s], 0 < n ∧ n ≤ 1000000000) ∧ B' ≤ B + 120) ?_ ?_
  · refine ws_asg <| we_lc_range1 (E1 := E0) <| wa_cons <| we_int <| wa_nil ⟨_, rfl, by decide, by decide, by decide, fun i out B' => (∃ ns : List Int, out = ns.map D.int ∧ ns.length = i ∧ ∀ n ∈ ns, 0 < n ∧ n ≤ 1000000000) ∧ B' ≤ B + 30 * (i : Int), ⟨⟨[], rfl, rfl, fun n hn => nomatch hn⟩, by omega⟩, fun i out B' hi hI => ?_, fun out B' _ hI => ?_⟩
    · obtain ⟨⟨ns, rfl, hl, hn⟩, hB'⟩ := hI
      have hi : i < 4 := hi
      refine wt_yes ⟨fun _ => we_op <| we_int <| we_call <| wa_cons <| we_var rfl <| wa_cons <| we_var rfl <| wa_nil ⟨9, rfl, by decide, by decide, by omega, fun n B3 h0 h1 hB3 => ro_i0 ⟨⟨ns ++ [1 + n], by rw [List.map_append]; rfl, by rw [List.length_append, hl]; rfl, fun m hm => ?_⟩, by push_cast; omega⟩⟩, fun h => nomatch h⟩
      rcases List.mem_append.mp hm with hm | hm
      · exact hn m hm
      · rw [List.mem_singleton.mp hm]; omega
    · obtain ⟨⟨ns, rfl, hl, hn⟩, hB'⟩ := hI
      have hl : ns.length = 4 := hl
      have hB' : B' ≤ B + 30 * ((4 : Nat) : Int) := hB'
      match ns, hl with
      | [p, q, r, s], _ => exact wg_unl rfl <| wgs_cons <| wg_name <| wgs_cons <| wg_name <| wgs_cons <| wg_name <| wgs_cons <| wg_name <| wgs_nil ⟨⟨p, q, r, s, rfl, hn⟩, by omega⟩
  rintro _ B1 ⟨⟨p, q, r, s', rfl, hn⟩, hB1⟩
  have hp := hn p (by simp)
  have hq := hn q (by simp)
  have hr' := hn r (by simp)
  have hs := hn s' (by simp)
  refine ws_cut (fun ρ' B' => (∃ Es : List (Int × Int), ρ' = [some penF, some (.int 9), some (.int p), some (.int q), some (.int r), some (.int s'), some (.lst (Es.map edD)), none, none, none] ∧ 3 ≤ Es.length ∧ Es.length ≤ 4 ∧ (∀ e ∈ Es, ab e.1 ≤ 1000000000 ∧ ab e.2 ≤ 1000000000) ∧ ∀ f : Int × Int, f ≠ (0, 0) → ∃ e ∈ Es, f.1 * e.1 + f.2 * e.2 < 0) ∧ B' ≤ B + 121) ?_ ?_
  · refine ws_set <| we_call <| wa_cons <| we_var rfl <| wa_cons <| we_lst <| wa_cons <| we_lst <| wa_cons <| we_tup <| wa_cons <| we_var rfl <| wa_cons <| we_neg <| we_var rfl ⟨_, rfl, wa_nil ⟨z2, wa_cons <| we_tup <| wa_cons <| we_int <| wa_cons <| we_var rfl <| wa_nil ⟨z2, wa_cons <| we_tup <| wa_cons <| we_neg <| we_var rfl ⟨_, rfl, wa_cons <| we_int <| wa_nil ⟨z2, wa_nil ⟨z3, ?_⟩⟩⟩⟩⟩⟩
    refine wa_cons <| we_lst <| wa_cons <| we_tup <| wa_cons <| we_var rfl <| wa_cons <| we_int <| wa_nil ⟨z2, wa_cons <| we_tup <| wa_cons <| we_neg <| we_var rfl ⟨_, rfl, wa_cons <| we_int <| wa_nil ⟨z2, wa_cons <| we_tup <| wa_cons <| we_int <| wa_cons <| we_var rfl <| wa_nil ⟨z2, wa_cons <| we_tup <| wa_cons <| we_int <| wa_cons <| we_neg <| we_var rfl ⟨_, rfl, wa_nil ⟨z2, wa_nil ⟨z4, ?_⟩⟩⟩⟩⟩⟩⟩
    refine wa_cons <| we_lst <| wa_cons <| we_tup <| wa_cons <| we_int <| wa_cons <| we_int <| wa_nil ⟨z2, wa_cons <| we_tup <| wa_cons <| we_int <| wa_cons <| we_int <| wa_nil ⟨z2, wa_cons <| we_tup <| wa_cons <| we_neg <| we_int ⟨_, rfl, wa_cons <| we_neg <| we_int ⟨_, rfl, wa_nil ⟨z2, wa_nil ⟨z3, ?_⟩⟩⟩⟩⟩⟩
    refine wa_nil ⟨z3, wa_nil ⟨_, rfl, by show 0 < 3; decide, by show 3 ≤ 1000000; decide, by omega, fun d hd => ?_⟩⟩
    simp only [List.mem_cons, List.not_mem_nil, or_false] at hd
    rcases hd with rfl | rfl | rfl
    · refine ⟨⟨[(p, -q), (0, r), (-s', 0)], rfl, by simp, by simp, fun e he => ?_, ends1 hp.1 hq.1 hr'.1 hs.1⟩, by omega⟩
      simp only [List.mem_cons, List.not_mem_nil, or_false] at he
      rcases he with rfl | rfl | rfl <;> (constructor <;> (unfold Tbl.ab; omega))
    · refine ⟨⟨[(p, 0), (-q, 0), (0, r), (0, -s')], rfl, by simp, by simp, fun e he => ?_, ends2 hp.1 hq.1 hr'.1 hs.1⟩, by omega⟩
      simp only [List.mem_cons, List.not_mem_nil, or_false] at he
      rcases he with rfl | rfl | rfl | rfl <;> (constructor <;> (unfold Tbl.ab; omega))
    · refine ⟨⟨[(1, 0), (0, 1), (-1, -1)], rfl, by simp, by simp, fun e he => ?_, ends3⟩, by omega⟩
      simp only [List.mem_cons, List.not_mem_nil, or_false] at he
      rcases he with rfl | rfl | rfl <;> (constructor <;> (unfold Tbl.ab; omega))
  rintro _ B2 ⟨⟨Es, rfl, e3, e4, eab, hE⟩, hB2⟩
  refine wx_own ?_
  refine wx_cut (fun ρ' O' B' => (∃ (F : List P3) (a : Addr), ρ' = [some penF, some (.int 9), some (.int p), some (.int q), some (.int r), some (.int s'), some (.lst (Es.map edD)), some (.val (.ref a)), none, none] ∧ O' = [(a, .list (F.map tpD))] ∧ F.length = Es.length ∧ (∀ p ∈ F, Rd9 p) ∧ ∀ e ∈ Es, ∃ p ∈ F, p.1 = e.1 ∧ p.2.1 = e.2) ∧ B' ≤ B + 300) ?_ ?_
  · refine wx_asgW <| wew_lcA (E1 := E0) <| we_var rfl ⟨_, rfl, by rw [List.length_map]; omega, fun i out B' => (∃ F : List P3, out = F.map tpD ∧ F.length = i ∧ (∀ p ∈ F, Rd9 p) ∧ ∀ e ∈ Es.take i, ∃ p ∈ F, p.1 = e.1 ∧ p.2.1 = e.2) ∧ B' ≤ B + 121 + 31 * (i : Int), ⟨⟨[], rfl, rfl, (fun p hp => nomatch hp), fun e he => by simp at he⟩, by omega⟩, fun i x out B' hx hI => ?_, fun out B' _ hI a => ?_⟩
    · obtain ⟨⟨F, rfl, hl, hF, hm⟩, hB'⟩ := hI
      obtain ⟨⟨u, v⟩, he, rfl⟩ := at_map hx
      have hi := (List.getElem?_eq_some_iff.mp he).1
      have hab := eab (u, v) (List.mem_of_getElem? he)
      refine wt_yes ⟨fun _ => we_tup <| wa_cons <| we_op <| we_var rfl <| we_int <| ro_ixT (d := .int u) rfl <| wa_cons <| we_op <| we_var rfl <| we_int <| ro_ixT (d := .int v) rfl <| wa_cons <| we_call <| wa_cons <| we_var rfl <| wa_cons <| we_var rfl <| wa_nil ⟨9, rfl, by decide, by decide, by omega, fun n B3 h1 hB3 => wa_nil ⟨z3, ⟨F ++ [(u, v, n)], by rw [List.map_append]; rfl, by rw [List.length_append, hl]; rfl, fun z hz => ?_, fun e' he' => ?_⟩, by push_cast; omega⟩⟩, fun h => nomatch h⟩
      · rcases List.mem_append.mp hz with hz | hz
        · exact hF z hz
        · rw [List.mem_singleton.mp hz]
          refine ⟨hab.1, hab.2, ?_⟩
          show ab n ≤ _
          unfold Tbl.ab
          omega
      · rw [List.take_add_one, he] at he'
        rcases List.mem_append.mp he' with he' | he'
        · obtain ⟨z, hz, h⟩ := hm e' he'
          exact ⟨z, List.mem_append_left _ hz, h⟩
        · rw [show e' = (u, v) by simpa using he']
          exact ⟨(u, v, n), List.mem_append_right _ (by simp), rfl, rfl⟩
    · obtain ⟨⟨F, rfl, hl, hF, hm⟩, hB'⟩ := hI
      rw [List.length_map] at hl hm hB'
      rw [List.take_length] at hm
      exact wg_name ⟨⟨F, a, rfl, rfl, hl, hF, hm⟩, by omega⟩
  rintro _ _ B3 ⟨⟨F, a, rfl, rfl, hFl, hF, hm⟩, hB3⟩
  refine wx_cut (fun ρ' O' B' => (∃ (F' : List P3) (o8 o9 : Option D), ρ' = [some penF, some (.int 9), some (.int p), some (.int q), some (.int r), some (.int s'), some (.lst (Es.map edD)), some (.val (.ref a)), o8, o9] ∧ O' = [(a, .list (F'.map tpD))] ∧ 3 ≤ F'.length ∧ F'.length ≤ 8 ∧ (∀ p ∈ F', Rd9 p) ∧ ∀ x ∈ F, x ∈ F') ∧ B' ≤ B + 1500) ?_ ?_
  · refine wx_for_range1W <| waw_cons <| wew_callD <| waw_cons <| wew_we <| we_var rfl <| waw_cons <| wew_op <| wew_we <| we_int <| wew_lenV <| we_var rfl ⟨a, 0, _, rfl, rfl, ro_i0 <| waw_nil ⟨_, rfl, by rw [List.length_map]; omega, bdl (by rw [List.length_map]; omega), by omega, fun d d0 d1 => ?_⟩⟩
    rw [List.length_map] at d1
    refine waw_nil ⟨_, rfl, by omega, by omega, fun n ρ' O' B' => (∃ (F' : List P3) (o8 o9 : Option D), ρ' = [some penF, some (.int 9), some (.int p), some (.int q), some (.int r), some (.int s'), some (.lst (Es.map edD)), some (.val (.ref a)), o8, o9] ∧ O' = [(a, .list (F'.map tpD))] ∧ F'.length = F.length + n ∧ (∀ p ∈ F', Rd9 p) ∧ ∀ x ∈ F, x ∈ F') ∧ B' ≤ B + 301 + 93 * (n : Int), ⟨⟨F, none, none, rfl, rfl, rfl, hF, fun x hx => hx⟩, by omega⟩, fun n ρ' O' B' hn hI => ?_, fun ρ' O' B' hI => ?_⟩
    · obtain ⟨⟨F', o8, o9, rfl, rfl, hl, hF', hs'⟩, hB'⟩ := hI
      have num : ∀ {e : EW} {B0 : Int} {k : KD}, B0 ≤ 790000 → (∀ (n : Int) B', ab n ≤ 1000000000 → B' ≤ B0 + 31 → k (.int n) B') → pr_l_number T [penF, .int 9] B0 k e := fun hb hk => ⟨9, rfl, by decide, by decide, by omega, fun i B' h1 h2 => hk i B' (by unfold Tbl.ab; omega) h2⟩
      have hl9 : F'.length < 1000 := by omega
      refine wg_name <| wx_appV <| we_var rfl ⟨a, rfl, ⟨_, List.mem_cons_self ..⟩, wew_we <| we_tup <| wa_cons <| we_call <| wa_cons <| we_var rfl <| wa_cons <| we_var rfl <| wa_nil <| num (by omega) fun x B5 hx hB5 => wa_cons <| we_call <| wa_cons <| we_var rfl <| wa_cons <| we_var rfl <| wa_nil <| num (by omega) fun y B6 hy hB6 => wa_cons <| we_call <| wa_cons <| we_var rfl <| wa_cons <| we_var rfl <| wa_nil <| num (by omega) fun z B7 hz hB7 => wa_nil ⟨z3, 0, _, rfl, by rw [List.length_map]; omega, ⟨F' ++ [(x, y, z)], _, _, rfl, by rw [List.map_append]; rfl, by rw [List.length_append, hl]; rfl, fun w hw => ?_, fun w hw => List.mem_append_left _ (hs' w hw)⟩, by push_cast; omega⟩⟩
      rcases List.mem_append.mp hw with hw | hw
      · exact hF' w hw
      · rw [List.mem_singleton.mp hw]; exact ⟨hx, hy, hz⟩
    · obtain ⟨⟨F', o8, o9, rfl, rfl, hl, hF', hs'⟩, hB'⟩ := hI
      exact ⟨⟨F', _, _, rfl, rfl, by omega, by omega, hF', hs'⟩, by omega⟩
  rintro _ _ B4 ⟨⟨F', o8, o9, rfl, rfl, l3, l8, hF', hs'⟩, hB4⟩
  refine wx_tell (i := 7) rfl <| wx_ws <| ws_ret <| we_call <| wa_cons <| we_var rfl <| wa_cons <| we_var rfl <| wa_nil ⟨F', rfl, by omega, by omega, fun M B5 hM hx hB5 => hk M B5 (by omega) (by omega) (fun z hz => hF' z ((hx z).mpr hz)) (Around.mem (around_of Es hE fun e he => ?_) fun x hx' => (hx x).mp hx') (by omega)⟩
  obtain ⟨z, hz, h⟩ := hm e he
  exact ⟨z, hs' z hz, h⟩
end
end AW

set_option linter.all false
set_option maxRecDepth 100000
set_option maxHeartbeats 8000000
namespace AW
open PySem PySem.Spec PyProof.Rows L2 LamX Tbl
variable [Tbs]
section
variable {P : Program} {w : World} {K : PySem.W.Frag} {mg : Str → Option Value} {base : Heap}
theorem tenb {g k : Nat} {i : Int} (h : i.natAbs < 10 ^ g) (hk : 4 * g + 1 ≤ k) : Bd k i := ten_b (n := g) (Nat.le_of_lt h) hk
theorem Rd9.u {p : P3} (h : Rd9 p) : ab (uu p) ≤ 2 ^ 60 := by
  obtain ⟨h1, h2, h3⟩ := h
  show ab (2 * p.2.2 - p.1 * p.2.1) ≤ 1152921504606846976
  have := mulle (ab_nn p.1) h1 (ab_nn p.2.1) h2
  rw [← ab_mul] at this
  unfold Tbl.ab at *
  omega
theorem Rd9.td {p : P3} (h : Rd9 p) : ab p.1 ≤ 2 ^ 30 ∧ ab p.2.1 ≤ 2 ^ 30 ∧ ab (uu p) ≤ 2 ^ 60 := ⟨by have := h.1; show _ ≤ 1073741824; omega, by have := h.2.1; show _ ≤ 1073741824; omega, h.u⟩
theorem Rd9.dom {p : P3} (h : Rd9 p) : Dom .x 30 30 p := dom_of h.td.1 h.td.2.1 (Int.le_trans h.u (by decide))
theorem Rd9.sz {p : P3} (h : Rd9 p) : SzP 40 p := by
  obtain ⟨h1, h2, h3⟩ := h
  unfold Tbl.ab at h1 h2 h3
  exact ⟨by unfold Bd; omega, by unfold Bd; omega, by unfold Bd; omega⟩
theorem tb30 {k : Nat} (h : k ≤ 8) : TbOk 30 30 k := by
  have : k = 0 ∨ k = 1 ∨ k = 2 ∨ k = 3 ∨ k = 4 ∨ k = 5 ∨ k = 6 ∨ k = 7 ∨ k = 8 := by omega
  unfold TbOk grw ginc
  rcases this with rfl | rfl | rfl | rfl | rfl | rfl | rfl | rfl | rfl <;> decide
theorem dec_b {b : Bool} {q : Prop} {d : D} (hb : b = true ↔ q) (h1 : q → isNon d = false) (h2 : ¬ q → isNon d = true) : decide (b = !isNon d) = true := by
  refine decide_eq_true ?_
  cases b with
  | true => rw [h1 (hb.mp rfl)]; rfl
  | false => rw [h2 fun z => nomatch hb.mpr z]; rfl
def pr_l_far_right (T : Tx K mg) : Pr := fun ds B k e => ds = [penF] ∧ B ≤ 500000 ∧ ∀ B', B' ≤ B + 3000 → k (.bl true) B'
theorem okD_l_far_right (T : Tx K mg) : FnOk P w K mg base (L2.CX P w) 16 T.a_l_far_right T.d_l_far_right P_l_far_right (spD K (pr_l_far_right T)) := by
  refine T.F_l_far_right.okX sc_l_far_right (spD_len fun ds B k e h => by obtain ⟨rfl, hB, hk⟩ := h; rfl) (fun cdv A outer s H vs Q E hr h => ?_)
  have G_Forward_has : FnOk P w K mg base (L2.CX P w) 11 _ _ _ _ := okD_Forward_has T
  have G_Forward_init : FnOk P w K mg base (L2.CX P w) 14 _ _ _ _ := okD_Forward_init T
  have G_Forward_table : FnOk P w K mg base (L2.CX P w) 1 _ _ _ _ := okD_Forward_table T
  have G_Table_eq : FnOk P w K mg base (L2.CX P w) 4 _ _ _ _ := okD_Table_eq T
  have G_Table_init : FnOk P w K mg base (L2.CX P w) 12 _ _ _ _ := okD_Table_init T
  have G_l_figures : FnOk P w K mg base (L2.CX P w) 2 _ _ _ _ := okD_l_figures T
  have G_l_made : FnOk P w K mg base (L2.CX P w) 5 _ _ _ _ := okD_l_made T
  have G_l_mul : FnOk P w K mg base (L2.CX P w) 1 _ _ _ _ := okD_l_mul T
  have G_l_number : FnOk P w K mg base (L2.CX P w) 4 _ _ _ _ := okD_l_number T
  have G_l_place : FnOk P w K mg base (L2.CX P w) 6 _ _ _ _ := okD_l_place T
  have G_l_pow : FnOk P w K mg base (L2.CX P w) 1 _ _ _ _ := okD_l_pow T
  have G_l_returned_right : FnOk P w K mg base (L2.CX P w) 5 _ _ _ _ := okD_l_returned_right T
  have G_l_round : FnOk P w K mg base (L2.CX P w) 6 _ _ _ _ := okD_l_round T
  have G_l_row : FnOk P w K mg base (L2.CX P w) 1 _ _ _ _ := okD_l_row T
  have G_l_table_right : FnOk P w K mg base (L2.CX P w) 4 _ _ _ _ := okD_l_table_right T
  have G_l_ten : FnOk P w K mg base (L2.CX P w) 1 _ _ _ _ := okD_l_ten T
  have G_l_truth : FnOk P w K mg base (L2.CX P w) 1 _ _ _ _ := okD_l_truth T
  have G_l_undo : FnOk P w K mg base (L2.CX P w) 1 _ _ _ _ := okD_l_undo T
  obtain ⟨G, ds, B, k, e, hs, hR, ⟨rfl, hB, hk⟩, hK, hX⟩ := h
  refine ⟨_, (pss_cons (ps_set (i := 1) sc_l_far_right.nd rfl (.inl rfl) (pe_call G_l_round (hr.mono (by decide)) (by rfl) T.g_l_round T.F_l_round.kp T.b_l_round .nil passL (pa_cons (pv 0) (pa_cons pe_int pa_nil))))
 (pss_cons (ps_par (i := 2) (j := 3) (by rfl) sc_l_far_right.nd rfl rfl (by decide) rfl rfl (pa_cons (pe_make T.M_Forward G_Forward_init (hr.mono (by decide)) (by rfl) T.g_C_Forward T.b_Forward_init .nil passL (pa_cons (pe_lc (te := (tCall (spD K (pr_l_place T)) [] E0 (tCons (tVar 8) tNil))) (own := [("_law_row_here", 8)]) (g := gName 8) (by rfl) sc_l_far_right.nd (pi_list (pv 1)) (blkOk_by (own := [("_law_row_here", 8)]) (N := N_l_far_right) (sc := defScope s_l_far_right) (by decide +kernel)) (fun _ _ _ _ _ => pg_name (i := 8) sc_l_far_right.nd rfl (Or.inl rfl)) (fun _ _ _ _ _ => pts_nil) (fun _ _ _ _ _ => (pe_call G_l_place (hr.mono (by decide)) (by rfl) T.g_l_place T.F_l_place.kp T.b_l_place .nil passL (pa_cons (pv 8) pa_nil)))) pa_nil)) (pa_cons (pe_make T.M_Table G_Table_init (hr.mono (by decide)) (by rfl) T.g_C_Table T.b_Table_init .nil passL (pa_cons (pe_lc (te := (tCall (spD K (pr_l_place T)) [] E0 (tCons (tVar 8) tNil))) (own := [("_law_row_here", 8)]) (g := gName 8) (by rfl) sc_l_far_right.nd (pi_list (pv 1)) (blkOk_by (own := [("_law_row_here", 8)]) (N := N_l_far_right) (sc := defScope s_l_far_right) (by decide +kernel)) (fun _ _ _ _ _ => pg_name (i := 8) sc_l_far_right.nd rfl (Or.inl rfl)) (fun _ _ _ _ _ => pts_nil) (fun _ _ _ _ _ => (pe_call G_l_place (hr.mono (by decide)) (by rfl) T.g_l_place T.F_l_place.kp T.b_l_place .nil passL (pa_cons (pv 8) pa_nil)))) pa_nil)) pa_nil)) (by rfl))
 (pss_cons (ps_if (PW.pt (pw_or (pt_not (pt_val (pe_call G_l_truth (hr.mono (by decide)) (by rfl) T.g_l_truth T.F_l_truth.kp T.b_l_truth .nil passL (pa_cons (pe_fld (pv 2) rfl) (pa_cons pe_bl pa_nil))))) (pw_or (pt_not (pt_val (pe_call G_l_table_right (hr.mono (by decide)) (by rfl) T.g_l_table_right T.F_l_table_right.kp T.b_l_table_right .nil passL (pa_cons (pv 3) (pa_cons (pv 1) pa_nil))))) (pw_or1 (pt_not (pt_cmpR (op_eqO T.E_Table G_Table_eq (hr.mono (by decide)) T.b_Table_eq passL) (pe_meth0 (pv 2) T.cl_Forward T.M_Forward_table G_Forward_table (hr.mono (by decide)) T.b_Forward_table .nil passL) (pv 3) (nomark _)))))))
 (pss_one (ps_ret pe_bl))
 pss_nil)
 (pss_cons (ps_if (pt_not (pt_val (pe_call G_l_returned_right (hr.mono (by decide)) (by rfl) T.g_l_returned_right T.F_l_returned_right.kp T.b_l_returned_right .nil passL (pa_cons (pe_meth0 (pv 2) T.cl_Forward T.M_Forward_table G_Forward_table (hr.mono (by decide)) T.b_Forward_table .nil passL) pa_nil))))
 (pss_one (ps_ret pe_bl))
 pss_nil)
 (pss_cons (ps_par (i := 4) (j := 5) (by rfl) sc_l_far_right.nd rfl rfl (by decide) rfl rfl (pa_cons (pe_lc (te := (tCall (spD K (pr_l_row T)) [] E0 (tCons (tVar 9) tNil))) (own := [("_law_place_here", 9)]) (g := gName 9) (by rfl) sc_l_far_right.nd (pi_tup (pe_fld (pv 3) rfl)) (blkOk_by (own := [("_law_place_here", 9)]) (N := N_l_far_right) (sc := defScope s_l_far_right) (by decide +kernel)) (fun _ _ _ _ _ => pg_name (i := 9) sc_l_far_right.nd rfl (Or.inl rfl)) (fun _ _ _ _ _ => pts_nil) (fun _ _ _ _ _ => (pe_call G_l_row (hr.mono (by decide)) (by rfl) T.g_l_row T.F_l_row.kp T.b_l_row .nil passL (pa_cons (pv 9) pa_nil)))) (pa_cons (pe_fld (pv 3) rfl) pa_nil)) (by rfl))
 (pss_cons (ps_set (i := 6) sc_l_far_right.nd rfl (.inl rfl) (pe_op op_cat (pe_lc (te := (tCall (spD K (pr_l_undo T)) [] E0 (tCons (tVar 8) tNil))) (own := [("_law_row_here", 8)]) (g := gName 8) (by rfl) sc_l_far_right.nd (pi_list (pv 1)) (blkOk_by (own := [("_law_row_here", 8)]) (N := N_l_far_right) (sc := defScope s_l_far_right) (by decide +kernel)) (fun _ _ _ _ _ => pg_name (i := 8) sc_l_far_right.nd rfl (Or.inl rfl)) (fun _ _ _ _ _ => pts_nil) (fun _ _ _ _ _ => (pe_call G_l_undo (hr.mono (by decide)) (by rfl) T.g_l_undo T.F_l_undo.kp T.b_l_undo .nil passL (pa_cons (pv 8) pa_nil)))) (pe_lst (pa_cons (pe_tup (pa_cons pe_int (pa_cons pe_int (pa_cons (pv 5) pa_nil)))) (pa_cons (pe_tup (pa_cons pe_int (pa_cons pe_int (pa_cons (pe_un un_neg (pv 5)) pa_nil)))) (pa_cons (pe_tup (pa_cons pe_int (pa_cons pe_int (pa_cons pe_int pa_nil)))) (pa_cons (pe_tup (pa_cons pe_int (pa_cons pe_int (pa_cons pe_int pa_nil)))) pa_nil)))))))
 (pss_cons (ps_set (i := 7) sc_l_far_right.nd rfl (.inl rfl) (pe_call G_l_made (hr.mono (by decide)) (by rfl) T.g_l_made T.F_l_made.kp T.b_l_made .nil passL (pa_cons (pv 0) (pa_cons (pv 4) (pa_cons (pv 5) (pa_cons pe_int pa_nil))))))
 (pss_cons (ps_set (i := 6) sc_l_far_right.nd rfl (.inl rfl) (pe_op op_cat (pv 6) (pe_lst (pa_cons (pv 7) (pa_cons (pe_call G_l_mul (hr.mono (by decide)) (by rfl) T.g_l_mul T.F_l_mul.kp T.b_l_mul .nil passL (pa_cons (pv 7) (pa_cons (pe_tup (pa_cons pe_int (pa_cons pe_int (pa_cons pe_int pa_nil)))) pa_nil))) (pa_cons (pe_call G_l_mul (hr.mono (by decide)) (by rfl) T.g_l_mul T.F_l_mul.kp T.b_l_mul .nil passL (pa_cons (pv 7) (pa_cons (pe_tup (pa_cons pe_int (pa_cons pe_int (pa_cons pe_int pa_nil)))) pa_nil))) (pa_cons (pe_call G_l_mul (hr.mono (by decide)) (by rfl) T.g_l_mul T.F_l_mul.kp T.b_l_mul .nil passL (pa_cons (pv 7) (pa_cons (pe_tup (pa_cons pe_int (pa_cons (pv 5) (pa_cons (pe_op op_fdivG (pv 5) pe_int) pa_nil)))) pa_nil))) pa_nil)))))))
 (pss_cons (ps_set (i := 6) sc_l_far_right.nd rfl (.inl rfl) (pe_op op_cat (pv 6) (pe_lst (pa_cons (pe_tup (pa_cons (pe_call G_l_number (hr.mono (by decide)) (by rfl) T.g_l_number T.F_l_number.kp T.b_l_number .nil passL (pa_cons (pv 0) (pa_cons pe_int pa_nil))) (pa_cons (pe_call G_l_number (hr.mono (by decide)) (by rfl) T.g_l_number T.F_l_number.kp T.b_l_number .nil passL (pa_cons (pv 0) (pa_cons pe_int pa_nil))) (pa_cons (pe_call G_l_number (hr.mono (by decide)) (by rfl) T.g_l_number T.F_l_number.kp T.b_l_number .nil passL (pa_cons (pv 0) (pa_cons pe_int pa_nil))) pa_nil)))) (pa_cons (pe_call G_l_pow (hr.mono (by decide)) (by rfl) T.g_l_pow T.F_l_pow.kp T.b_l_pow .nil passL (pa_cons (pe_ix ix_list (pv 1) pe_int (fun _ _ => rfl)) (pa_cons (pe_un un_neg (pe_call G_l_ten (hr.mono (by decide)) (by rfl) T.g_l_ten T.F_l_ten.kp T.b_l_ten .nil passL (pa_cons pe_int pa_nil))) pa_nil))) pa_nil)))))
 (pss_cons (ps_for (passes_of rfl) rfl (pi_list (pv 6)) (pg_name (i := 8) sc_l_far_right.nd rfl (.inl rfl))
 (pss_one (ps_if (pt_not (pt_val (pe_call G_l_truth (hr.mono (by decide)) (by rfl) T.g_l_truth T.F_l_truth.kp T.b_l_truth .nil passL (pa_cons (pe_meth (pv 2) T.cl_Forward T.M_Forward_has G_Forward_has (hr.mono (by decide)) T.b_Forward_has .nil passL (pa_cons (pe_call G_l_place (hr.mono (by decide)) (by rfl) T.g_l_place T.F_l_place.kp T.b_l_place .nil passL (pa_cons (pv 8) pa_nil)) pa_nil)) (pa_cons (pe_cmp (pc_notN (pe_call G_l_figures (hr.mono (by decide)) (by rfl) T.g_l_figures T.F_l_figures.kp T.b_l_figures .nil passL (pa_cons (pv 4) (pa_cons (pv 5) (pa_cons (pv 8) pa_nil))))) rfl) pa_nil)))))
 (pss_one (ps_ret pe_bl))
 pss_nil)))
 (pss_one (ps_ret pe_bl)))))))))))), run_body (ρ := [some penF, none, none, none, none, none, none, none, none, none]) hs hR hK hX rfl ?_⟩
  have zL : 1000 < sizeLine := by decide
  have z3 : 3 ≤ sizeLine := by decide
  have z4 : 4 ≤ sizeLine := by decide
  have eqt : ∀ {E E' : XK} {e : EW} {B : Int} {k' : KD} {g : Bool → Bool} {told1 L1 told2 L2 : List P3} {c1 c2 : Int} {ls1 ls2 : List (Nat × Int × Nat)} {mids1 mids2 : List Nat}, k' (.bl (g (decide (L1 = L2 ∧ c1 = c2)))) B → Ro K E e (rEqO K T.C_Table (spD K (pr_Table_eq T)) E' g) (tbD T told1 L1 c1 ls1 mids1) (tbD T told2 L2 c2 ls2 mids2) B k' := fun h => ro_eqG (tyD_tb T) (nf_self _) ⟨_, _, _, _, _, _, _, _, _, _, rfl, _, rfl, h⟩
  refine ws_cut (fun ρ' B' => (∃ M : List P3, ρ' = [some penF, some (.lst (M.map tpD)), none, none, none, none, none, none, none, none] ∧ 3 ≤ M.length ∧ M.length ≤ 8 ∧ (∀ p ∈ M, Rd9 p) ∧ Around M) ∧ B' ≤ B + 2000) ?_ ?_
  · exact ws_set <| we_call <| wa_cons <| we_var rfl <| wa_cons <| we_int <| wa_nil ⟨rfl, by omega, fun M B' l3 l8 hM hA hB' => ⟨⟨M, rfl, l3, l8, hM, hA⟩, hB'⟩⟩
  rintro _ B1 ⟨⟨M, rfl, l3, l8, hM, hA⟩, hB1⟩
  have msz : ∀ p ∈ M, Bd 1000 p.1 ∧ Bd 1000 p.2.1 := fun p hp => ⟨(hM p hp).sz.1.mono (by decide), (hM p hp).sz.2.1.mono (by decide)⟩
  refine ws_cut (fun ρ' B' => (∃ (L : List P3) (c : Int) (ls ls' : List (Nat × Int × Nat)) (mids mids' : List Nat) (ws : List D), ρ' = [some penF, some (.lst (M.map tpD)), some (fwD T M L c ls mids ws), some (tbD T M L c ls' mids'), none, none, none, none, none, none] ∧ TabOk M L c ls mids ∧ TabOk M L c ls' mids') ∧ B1 = B') ?_ ?_
  · refine ws_par <| wa_cons <| we_make <| wa_cons <| we_lc_toldL (E1 := E0) (f := tpD) (g := plp T) <| we_var rfl ⟨M, rfl, by omega, fun x hx k' hk' => we_call <| wa_cons <| we_var rfl <| wa_nil ⟨x, rfl, hk'⟩, wa_nil ⟨30, 30, M, rfl, fun p hp => (hM p hp).dom, tb30 l8, msz, hA, fun L c ls mids ws hT => ?_⟩⟩
    refine wa_cons <| we_make <| wa_cons <| we_lc_toldL (E1 := E0) (f := tpD) (g := plp T) <| we_var rfl ⟨M, rfl, by omega, fun x hx k' hk' => we_call <| wa_cons <| we_var rfl <| wa_nil ⟨x, rfl, hk'⟩, wa_nil ⟨30, 30, M, rfl, fun p hp => (hM p hp).dom, tb30 l8, fun L' c' ls' mids' hT' => wa_nil ⟨_, _, rfl, ?_⟩⟩⟩
    obtain ⟨e1, e2⟩ := tab_one hT.led hT'.led hT.ge hT'.ge (fun p => Iff.rfl)
    subst e1 e2
    exact ⟨⟨L', c', ls, ls', mids, mids', ws, rfl, hT, hT'⟩, rfl⟩
  rintro _ _ ⟨⟨L, c, ls, ls', mids, mids', ws, rfl, hT, hT'⟩, rfl⟩
  have hTb : Tb 93 L c := tab_tb hT (n := 30) (m := 60) (N := 92) (fun w hw => (hM w hw).td) (by decide) (by decide)
  have hl2 := led_len hT.led
  refine ws_cut (fun ρ' B' => ρ' = [some penF, some (.lst (M.map tpD)), some (fwD T M L c ls mids ws), some (tbD T M L c ls' mids'), none, none, none, none, none, none] ∧ B1 = B') ?_ ?_
  · refine ws_if <| wt_or <| wt_not <| wt_val <| we_call <| wa_cons <| fw_fld T rfl T.na_Forward_around rfl <| wa_cons <| we_bl <| wa_nil ⟨true, true, rfl, _, rfl, (fun h => nomatch h), fun _ => ?_⟩
    refine wt_or <| wt_not <| wt_val <| we_call <| wa_cons <| we_var rfl <| wa_cons <| we_var rfl <| wa_nil ⟨M, L, c, ls', mids', rfl, hT', fun w hw => ⟨(msz w hw).1.mono (by decide), (msz w hw).2.mono (by decide)⟩, l8, _, rfl, (fun h => nomatch h), fun _ => ?_⟩
    refine wt_not <| wt_test <| we_op <| we_meth0 <| we_var rfl ⟨_, _, rfl, by decide +kernel, M, L, c, ls, mids, ws, rfl, we_var rfl <| eqt (g := id) ⟨_, rfl, ?_⟩⟩
    rw [decide_eq_true (⟨rfl, rfl⟩ : L = L ∧ c = c)]
    exact ⟨(fun h => nomatch h), fun _ => ws_next ⟨rfl, rfl⟩⟩
  rintro _ _ ⟨rfl, rfl⟩
  refine ws_cut (fun ρ' B' => ρ' = [some penF, some (.lst (M.map tpD)), some (fwD T M L c ls mids ws), some (tbD T M L c ls' mids'), none, none, none, none, none, none] ∧ B1 = B') ?_ ?_
  · exact ws_if <| wt_not <| wt_val <| we_call <| wa_cons <| we_meth0 <| we_var rfl ⟨_, _, rfl, by decide +kernel, M, L, c, ls, mids, ws, rfl, wa_nil ⟨M, L, c, ls, mids, rfl, hT, fun w hw => ⟨(msz w hw).1.mono (by decide), (msz w hw).2.mono (by decide)⟩, l8, _, rfl, (fun h => nomatch h), fun _ => ws_next ⟨rfl, rfl⟩⟩⟩
  rintro _ _ ⟨rfl, rfl⟩
  refine ws_cut (fun ρ' B' => ρ' = [some penF, some (.lst (M.map tpD)), some (fwD T M L c ls mids ws), some (tbD T M L c ls' mids'), some (.lst (L.map tpD)), some (.int c), none, none, none, none] ∧ B1 = B') ?_ ?_
  · exact ws_par <| wa_cons <| we_lc_toldT (E1 := E0) (f := plp T) (g := tpD) <| tb_fld T rfl T.na_Table_ledge rfl ⟨L, rfl, by omega, fun x hx k' hk' => we_call <| wa_cons <| we_var rfl <| wa_nil ⟨x, rfl, hk'⟩, wa_cons <| tb_fld T rfl T.na_Table_home rfl <| wa_nil ⟨_, _, rfl, rfl, rfl⟩⟩
  rintro _ _ ⟨rfl, rfl⟩
  have bc : Bd 1000 c := hTb.bc.mono (by decide)
  refine ws_cut (fun ρ' B' => (∃ W : List P3, ρ' = [some penF, some (.lst (M.map tpD)), some (fwD T M L c ls mids ws), some (tbD T M L c ls' mids'), some (.lst (L.map tpD)), some (.int c), some (.lst (W.map tpD)), none, none, none] ∧ W.length ≤ 12 ∧ ∀ w ∈ W, Bd 2000 w.1 ∧ Bd 2000 w.2.1) ∧ B1 = B') ?_ ?_
  · refine ws_set <| we_op <| we_lc_toldL (E1 := E0) (f := tpD) (g := fun p => tpD (iv p)) <| we_var rfl ⟨M, rfl, by omega, fun x hx k' hk' => we_call <| wa_cons <| we_var rfl <| wa_nil ⟨x, rfl, cmc ((msz x hx).1.mono (by decide)) ((msz x hx).2.mono (by decide)), hk'⟩, ?_⟩
    refine we_lst <| wa_cons <| we_tup <| wa_cons <| we_int <| wa_cons <| we_int <| wa_cons <| we_var rfl <| wa_nil ⟨z3, wa_cons <| we_tup <| wa_cons <| we_int <| wa_cons <| we_int <| wa_cons <| we_neg <| we_var rfl ⟨_, rfl, wa_nil ⟨z3, wa_cons <| we_tup <| wa_cons <| we_int <| wa_cons <| we_int <| wa_cons <| we_int <| wa_nil ⟨z3, wa_cons <| we_tup <| wa_cons <| we_int <| wa_cons <| we_int <| wa_cons <| we_int <| wa_nil ⟨z3, wa_nil ⟨z4, ro_catL (by rw [List.length_map]; show _ + 4 ≤ _; omega) ⟨⟨M.map iv ++ [zz c, zz (-c), zz 1, zz 0], by rw [List.map_append, List.map_map]; rfl, by rw [List.length_append, List.length_map]; show _ + 4 ≤ 12; omega, fun w hw => ?_⟩, rfl⟩⟩⟩⟩⟩⟩⟩
    rcases List.mem_append.mp hw with hw | hw
    · obtain ⟨x, hx, rfl⟩ := List.mem_map.mp hw
      exact ⟨(msz x hx).1.neg.mono (by decide), (msz x hx).2.neg.mono (by decide)⟩
    · simp only [List.mem_cons, List.not_mem_nil, or_false] at hw
      rcases hw with rfl | rfl | rfl | rfl <;> exact ⟨bdz, bdz⟩
  rintro _ _ ⟨⟨W, rfl, hWl, hW⟩, rfl⟩
  refine ws_cut (fun ρ' B' => (∃ own : P3, ρ' = [some penF, some (.lst (M.map tpD)), some (fwD T M L c ls mids ws), some (tbD T M L c ls' mids'), some (.lst (L.map tpD)), some (.int c), some (.lst (W.map tpD)), some (tpD own), none, none] ∧ SzP 1000 own) ∧ B' ≤ B + 2100) ?_ ?_
  · exact ws_set <| we_call <| wa_cons <| we_var rfl <| wa_cons <| we_var rfl <| wa_cons <| we_var rfl <| wa_cons <| we_int <| wa_nil ⟨L, c, 12, rfl, hl2, fun w hw => (hTb.sz w hw).mono (by decide), hTb.bc.mono (by decide), by decide, by decide, by omega, fun ms n B5 hn hns hn2 hB5 => ⟨⟨_, rfl, (made_sz hTb (m := 50) (by decide) hn (fun m hm => tenb (hns m hm) (by decide)) (tenb hn2 (by decide))).mono (by decide)⟩, by omega⟩⟩
  rintro _ B2 ⟨⟨own, rfl, so⟩, hB2⟩
  have cw : ∀ {a b : Int}, Bd 1000 a → Bd 1000 b → CMulW a b := fun h1 h2 => cmc (h1.mono (by decide)) (h2.mono (by decide))
  have b1 : Bd 1000 (1 : Int) := (bd1 (by decide)).1
  refine ws_cut (fun ρ' B' => (∃ W' : List P3, ρ' = [some penF, some (.lst (M.map tpD)), some (fwD T M L c ls mids ws), some (tbD T M L c ls' mids'), some (.lst (L.map tpD)), some (.int c), some (.lst (W'.map tpD)), some (tpD own), none, none] ∧ W'.length ≤ 16 ∧ ∀ w ∈ W', Bd 2000 w.1 ∧ Bd 2000 w.2.1) ∧ B2 = B') ?_ ?_
  · refine ws_set <| we_op <| we_var rfl <| we_lst <| wa_cons <| we_var rfl <| wa_cons <| we_call <| wa_cons <| we_var rfl <| wa_cons <| we_tup <| wa_cons <| we_int <| wa_cons <| we_int <| wa_cons <| we_int <| wa_nil ⟨z3, wa_nil ⟨own, zz 1, rfl, cw so.1 bdz, ?_⟩⟩
    refine wa_cons <| we_call <| wa_cons <| we_var rfl <| wa_cons <| we_tup <| wa_cons <| we_int <| wa_cons <| we_int <| wa_cons <| we_int <| wa_nil ⟨z3, wa_nil ⟨own, (1, 0, 0), rfl, cw so.1 bdz, ?_⟩⟩
    refine wa_cons <| we_call <| wa_cons <| we_var rfl <| wa_cons <| we_tup <| wa_cons <| we_int <| wa_cons <| we_var rfl <| wa_cons <| we_op <| we_var rfl <| we_int <| ro_i (dvg (by decide) ((show Bd 64 2 by unfold Bd; decide).mono (by decide))) <| wa_nil ⟨z3, wa_nil ⟨own, (0, c, c.fdiv 2), rfl, cw so.1 bc, wa_nil ⟨z4, ?_⟩⟩⟩
    refine ro_catL (by rw [List.length_map]; show _ + 4 ≤ _; omega) ⟨⟨W ++ [own, mu own (zz 1), mu own (1, 0, 0), mu own (0, c, c.fdiv 2)], by rw [List.map_append]; rfl, by rw [List.length_append]; show _ + 4 ≤ 16; omega, fun w hw => ?_⟩, rfl⟩
    rcases List.mem_append.mp hw with hw | hw
    · exact hW w hw
    · simp only [List.mem_cons, List.not_mem_nil, or_false] at hw
      rcases hw with rfl | rfl | rfl | rfl
      · exact ⟨so.1.mono (by decide), so.2.1.mono (by decide)⟩
      · exact ⟨(Bd.add so.1 bdz).mono (by decide), (Bd.add so.2.1 bdz).mono (by decide)⟩
      · exact ⟨(Bd.add so.1 b1).mono (by decide), (Bd.add so.2.1 bdz).mono (by decide)⟩
      · exact ⟨(Bd.add so.1 bdz).mono (by decide), (Bd.add so.2.1 bc).mono (by decide)⟩
  rintro _ _ ⟨⟨W', rfl, hWl', hW'⟩, rfl⟩
  obtain ⟨p0, M', rfl⟩ : ∃ p0 M', M = p0 :: M' := by
    cases M with
    | nil => simp at l3
    | cons a b => exact ⟨a, b, rfl⟩
  have sp0 := (hM p0 (List.mem_cons_self ..)).sz
  refine ws_cut (fun ρ' B' => (∃ W'' : List P3, ρ' = [some penF, some (.lst ((p0 :: M').map tpD)), some (fwD T (p0 :: M') L c ls mids ws), some (tbD T (p0 :: M') L c ls' mids'), some (.lst (L.map tpD)), some (.int c), some (.lst (W''.map tpD)), some (tpD own), none, none] ∧ W''.length ≤ 18 ∧ ∀ w ∈ W'', Bd 2000 w.1 ∧ Bd 2000 w.2.1) ∧ B' ≤ B + 2500) ?_ ?_
  · have num : ∀ {e : EW} {B0 : Int} {k : KD}, B0 ≤ 790000 → (∀ (n : Int) B', Bd 1000 n → B' ≤ B0 + 31 → k (.int n) B') → pr_l_number T [penF, .int 40] B0 k e := fun hb hk => ⟨40, rfl, by decide, by decide, by omega, fun i B' h1 h2 => hk i B' (tenb h1 (by decide)) h2⟩
    refine ws_set <| we_op <| we_var rfl <| we_lst <| wa_cons <| we_tup <| wa_cons <| we_call <| wa_cons <| we_var rfl <| wa_cons <| we_int <| wa_nil <| num (by omega) fun x B5 hx hB5 => wa_cons <| we_call <| wa_cons <| we_var rfl <| wa_cons <| we_int <| wa_nil <| num (by omega) fun y B6 hy hB6 => wa_cons <| we_call <| wa_cons <| we_var rfl <| wa_cons <| we_int <| wa_nil <| num (by omega) fun z B7 hz hB7 => wa_nil ⟨z3, ?_⟩
    have bt : Bd 100 (-(10 : Int) ^ 20) := by unfold Bd; decide
    refine wa_cons <| we_call <| wa_cons <| we_op <| we_var rfl <| we_int <| ro_ixL (d := tpD p0) (by exact atI_nat (j := 0) rfl) <| wa_cons <| we_neg <| we_call <| wa_cons <| we_int <| wa_nil ⟨20, rfl, by decide, _, rfl, wa_nil ⟨p0, -(10 : Int) ^ 20, rfl, sp0.mono (by decide), bt.mono (by decide), wa_nil ⟨Nat.le_trans (show 2 ≤ 3 by decide) z3, ?_⟩⟩⟩
    refine ro_catL (by rw [List.length_map]; show _ + 2 ≤ _; omega) ⟨⟨W' ++ [(x, y, z), pw p0 (-(10 : Int) ^ 20)], by rw [List.map_append]; rfl, by rw [List.length_append]; show _ + 2 ≤ 18; omega, fun w hw => ?_⟩, by omega⟩
    rcases List.mem_append.mp hw with hw | hw
    · exact hW' w hw
    · simp only [List.mem_cons, List.not_mem_nil, or_false] at hw
      rcases hw with rfl | rfl
      · exact ⟨hx.mono (by decide), hy.mono (by decide)⟩
      · exact ⟨(Bd.mul bt sp0.1).mono (by decide), (Bd.mul bt sp0.2.1).mono (by decide)⟩
  rintro _ B3 ⟨⟨V, rfl, hVl, hV⟩, hB3⟩
  refine ws_cut (fun ρ' B' => B3 = B') ?_ ?_
  · refine ws_for_list <| we_var rfl ⟨_, rfl, fun i ρ' B' => (∃ o8, ρ' = [some penF, some (.lst ((p0 :: M').map tpD)), some (fwD T (p0 :: M') L c ls mids ws), some (tbD T (p0 :: M') L c ls' mids'), some (.lst (L.map tpD)), some (.int c), some (.lst (V.map tpD)), some (tpD own), o8, none]) ∧ B3 = B', ⟨⟨none, rfl⟩, rfl⟩, fun i x ρ' B' hx hI => ?_, fun ρ' B' hI => hI.2⟩
    obtain ⟨⟨o8, rfl⟩, rfl⟩ := hI
    obtain ⟨w, hw, rfl⟩ := at_map hx
    have bw := hV w (List.mem_of_getElem? hw)
    refine wg_name ?_
    refine ws_if <| wt_not <| wt_val <| we_call <| wa_cons <| we_meth <| we_var rfl ⟨_, _, rfl, by decide +kernel, wa_cons <| we_call <| wa_cons <| we_var rfl <| wa_nil ⟨w, rfl, wa_nil ⟨93, 2000, p0 :: M', L, c, ls, mids, ws, w, rfl, hTb, by decide, by decide, bw.1, bw.2, fun b hb => wa_cons <| we_notN <| we_call <| wa_cons <| we_var rfl <| wa_cons <| we_var rfl <| wa_cons <| we_var rfl <| wa_nil ⟨L, c, w, rfl, hTb.tbs (by decide), bw.1.mono (by decide), bw.2.mono (by decide), fun d hd1 hd2 => wa_nil ⟨b, !isNon d, rfl, ?_⟩⟩⟩⟩⟩
    rw [dec_b hb (fun z => by obtain ⟨xs, rfl⟩ := hd1 z; rfl) (fun z => by rw [hd2 z]; rfl)]
    exact ⟨_, rfl, (fun h => nomatch h), fun _ => ws_next ⟨⟨_, rfl⟩, rfl⟩⟩
  rintro _ _ rfl
  exact ws_ret <| we_bl <| hk B3 (by omega)
end
end AW

set_option linter.all false
set_option maxRecDepth 100000
set_option maxHeartbeats 8000000
namespace AW
open PySem PySem.Spec PyProof.Rows L2 LamX Tbl
variable [Tbs]
section
variable {P : Program} {w : World} {K : PySem.W.Frag} {mg : Str → Option Value} {base : Heap}
theorem sh_nil : SeqAt.shaped (py (.lst [])) = true := by decide +kernel
theorem eqv_nl (W : List P3) : PyData.eqv (py (.lst (W.map tpD))) (py (.lst [])) = decide (W = []) := by
  cases W with
  | nil => rfl
  | cons a W => simp [py, pyL, PyData.eqv, PyData.eqvAll]
theorem any_tp (F : List P3) (x : P3) : ((pyL (F.map tpD)).any fun z => PyData.eqv z (py (tpD x))) = decide (x ∈ F) := by
  induction F with
  | nil => rfl
  | cons a F ih =>
    show (PyData.eqv (py (tpD a)) (py (tpD x)) || (pyL (F.map tpD)).any _) = _
    rw [ih, eqv_t3, Bool.eq_iff_iff]
    simp only [Bool.or_eq_true, decide_eq_true_eq, List.mem_cons]
    constructor
    · rintro (⟨h1, h2, h3⟩ | h)
      · exact .inl (p3_ext h1 h2 h3).symm
      · exact .inr h
    · rintro (rfl | h)
      · exact .inl ⟨rfl, rfl, rfl⟩
      · exact .inr h
theorem ok_tpL (F : List P3) : pyOkL (F.map tpD) = true := ok_lm (f := tpD) (fun _ => rfl) F
theorem sh_tpL (F : List P3) : SeqAt.shaped (.list (pyL (F.map tpD))) = true := sh_lm (f := tpD) (fun _ => rfl) (fun _ => Nat.le_of_ble_eq_true rfl) F
/-- the trying, on the way -/
structure TI (n : Nat) (told F W : List P3) (k : Nat) : Prop where
  nd : F.Nodup
  inr : ∀ f ∈ F, InR n f
  one : e0 ∈ F
  by_ : ∀ f ∈ F, ∃ q, Gen told q ∧ rg n q = f
  cl : ∀ f ∈ F, ¬ f ∈ W → ∀ t ∈ told, rg n (mu f t) ∈ F
  sub : ∀ f ∈ W, f ∈ F
  cnt : F.length = W.length + k
theorem inR_len {n : Nat} {F : List P3} (nd : F.Nodup) (h : ∀ f ∈ F, InR n f) : F.length ≤ n * n * n := by
  have := nodup_le (m := (List.range (n * n * n)).map (ringAt n)) nd fun f hf => by
    obtain ⟨h1, h2⟩ := ring_ix (h f hf)
    exact List.mem_map.mpr ⟨_, List.mem_range.mpr h1, h2⟩
  rwa [List.length_map, List.length_range] at this
theorem TI.done {n k : Nat} {told F : List P3} (h : TI n told F [] k) : Tried n told F := ⟨h.nd, h.inr, h.one, fun f hf => h.cl f hf (fun z => nomatch z), h.by_⟩
theorem fdN (a b : Nat) : ((a : Nat) : Int).fdiv ((b : Nat) : Int) = ((a / b : Nat) : Int) := by rw [Int.fdiv_eq_ediv_of_nonneg _ (Int.natCast_nonneg _)]; rfl
theorem fmN (a b : Nat) : ((a : Nat) : Int).fmod ((b : Nat) : Int) = ((a % b : Nat) : Int) := by rw [Int.fmod_eq_emod_of_nonneg _ (Int.natCast_nonneg _)]; rfl
theorem inR_bd {n : Nat} {p : P3} (n6 : n ≤ 6) (h : InR n p) {k : Nat} (hk : 64 ≤ k) : Bd k p.1 ∧ Bd k p.2.1 ∧ Bd k p.2.2 := by
  have h1 := h.1; have h2 := h.2.1; have h3 := h.2.2
  have b : ∀ {z : Int}, z.natAbs < 2 ^ 64 → Bd k z := fun {z} hz => (show Bd 64 z from hz).mono hk
  exact ⟨b (by omega), b (by omega), b (by omega)⟩
theorem bnat {n k : Nat} (n6 : n ≤ 6) (hk : 64 ≤ k) : Bd k (n : Int) ∧ Bd k ((n : Int) * n) := by
  have b : ∀ {z : Int}, z.natAbs < 2 ^ 64 → Bd k z := fun {z} hz => (show Bd 64 z from hz).mono hk
  refine ⟨b (by omega), b ?_⟩
  have h1 := Nat.mul_le_mul n6 n6
  have e : (n : Int) * n = ((n * n : Nat) : Int) := by push_cast; rfl
  rw [e]; omega
theorem dom6 {x y a : Int} (h1 : ab x ≤ 6) (h2 : ab y ≤ 6) (h3 : ab a ≤ 36) : Dom .x 3 7 (x, y, a) := by
  refine dom_of (by show ab x ≤ 8; omega) (by show ab y ≤ 128; omega) ?_
  show ab (2 * a - x * y) ≤ 4096
  have := mulle (ab_nn x) h1 (ab_nn y) h2
  rw [← ab_mul] at this
  unfold Tbl.ab at *
  omega
theorem tb37 {k : Nat} (h : k ≤ 7) : TbOk 3 7 k := by
  have : k = 0 ∨ k = 1 ∨ k = 2 ∨ k = 3 ∨ k = 4 ∨ k = 5 ∨ k = 6 ∨ k = 7 := by omega
  unfold TbOk grw ginc
  rcases this with rfl | rfl | rfl | rfl | rfl | rfl | rfl | rfl <;> decide
/-- small walks -/
def Sm6 (p : P3) : Prop := ab p.1 ≤ 6 ∧ ab p.2.1 ≤ 6 ∧ ab p.2.2 ≤ 6
theorem Sm6.dom {p : P3} (h : Sm6 p) : Dom .x 3 7 p := dom6 h.1 h.2.1 (show ab p.2.2 ≤ 36 by have := h.2.2; omega)
theorem Sm6.td {p : P3} (h : Sm6 p) : ab p.1 ≤ 2 ^ 3 ∧ ab p.2.1 ≤ 2 ^ 3 ∧ ab (uu p) ≤ 2 ^ 6 := by
  obtain ⟨h1, h2, h3⟩ := h
  refine ⟨by show ab p.1 ≤ 8; omega, by show ab p.2.1 ≤ 8; omega, ?_⟩
  show ab (2 * p.2.2 - p.1 * p.2.1) ≤ 64
  have := mulle (ab_nn p.1) h1 (ab_nn p.2.1) h2
  rw [← ab_mul] at this
  unfold Tbl.ab at *
  omega
theorem Sm6.bd {p : P3} (h : Sm6 p) : Bd 64 p.1 ∧ Bd 64 p.2.1 := by
  obtain ⟨h1, h2, h3⟩ := h
  unfold Tbl.ab at h1 h2
  exact ⟨by unfold Bd; omega, by unfold Bd; omega⟩
theorem inR_sm {n : Nat} {p : P3} (n6 : n ≤ 6) (h : InR n p) : Sm6 p := by
  have h1 := h.1; have h2 := h.2.1; have h3 := h.2.2
  unfold Sm6 Tbl.ab
  omega
def wdW (n : Int) : List P3 := [(n, 0, 0), (0, n, 0), (-n, -n, 0), (0, 0, n)]
theorem endsn {n : Int} (h : 0 < n) : ∀ f : Int × Int, f ≠ (0, 0) → ∃ e ∈ [(n, (0 : Int)), (0, n), (-n, -n)], f.1 * e.1 + f.2 * e.2 < 0 := by
  intro f hf
  obtain ⟨e, he, hl⟩ := ends3 f hf
  have key : ∀ a b : Int, f.1 * a + f.2 * b < 0 → f.1 * (n * a) + f.2 * (n * b) < 0 := fun a b hab => by
    have := Int.mul_neg_of_neg_of_pos hab h
    rw [Int.add_mul, Int.mul_assoc, Int.mul_assoc, Int.mul_comm a n, Int.mul_comm b n] at this
    exact this
  have k2 := key e.1 e.2 hl
  simp only [List.mem_cons, List.not_mem_nil, or_false] at he
  rcases he with rfl | rfl | rfl
  · exact ⟨(n, 0), by simp, by simpa using k2⟩
  · exact ⟨(0, n), by simp, by simpa using k2⟩
  · exact ⟨(-n, -n), by simp, by simpa using k2⟩
theorem ringT_wd {n : Nat} {told mixed L F : List P3} {c : Int} {ls : List (Nat × Int × Nat)} {mids : List Nat} (n0 : 0 < n) (hT : TabOk mixed L c ls mids) (hm : ∀ x, x ∈ told ++ wdW n ↔ x ∈ mixed) (hF : Tried n told F) : RT n L c F := by
  have n1 : (0 : Int) < n := by omega
  refine ⟨n0, hT.led, hF.nd, hF.inr, fun p => ?_⟩
  rw [int_gen hT.led, ← hT.ge p, ← tried_iff n1 hF]
  have e : rg n ((-(n : Int), -(n : Int), 0) : P3) = e0 := by
    have : rg n ((-(n : Int), -(n : Int), 0) : P3) = rg n e0 := rg_iff.mpr ⟨⟨-1, by show -(n : Int) - 0 = n * -1; omega⟩, ⟨-1, by show -(n : Int) - 0 = n * -1; omega⟩, 0, by show (0 : Int) - 0 = _; omega⟩
    rw [this]
    exact rg_id ⟨⟨Int.le_refl _, n1⟩, ⟨Int.le_refl _, n1⟩, Int.le_refl _, n1⟩
  have hw : Gen (told ++ rgW n) ((-(n : Int), -(n : Int), 0) : P3) := (tried_iff n1 hF _).mpr (by rw [e]; exact hF.one)
  constructor
  · refine gen_le fun s hs => ?_
    rcases List.mem_append.mp ((hm s).mpr hs) with h | h
    · exact gen_mem (List.mem_append_left _ h)
    · simp only [wdW, List.mem_cons, List.not_mem_nil, or_false] at h
      rcases h with rfl | rfl | rfl | rfl
      · exact gen_mem (List.mem_append_right _ (by simp [rgW]))
      · exact gen_mem (List.mem_append_right _ (by simp [rgW]))
      · exact hw
      · exact gen_mem (List.mem_append_right _ (by simp [rgW]))
  · refine gen_le fun s hs => gen_mem ((hm s).mp ?_)
    rcases List.mem_append.mp hs with h | h
    · exact List.mem_append_left _ h
    · simp only [rgW, List.mem_cons, List.not_mem_nil, or_false] at h
      rcases h with rfl | rfl | rfl
      · exact List.mem_append_right _ (by simp [wdW])
      · exact List.mem_append_right _ (by simp [wdW])
      · exact List.mem_append_right _ (by simp [wdW])
def pr_l_ring_right (T : Tx K mg) : Pr := fun ds B k e => ds = [penF] ∧ B ≤ 500000 ∧ ∀ B', k (.bl true) B'
theorem okD_l_ring_right (T : Tx K mg) : FnOk P w K mg base (L2.CX P w) 16 T.a_l_ring_right T.d_l_ring_right P_l_ring_right (spD K (pr_l_ring_right T)) := by
  refine T.F_l_ring_right.okX sc_l_ring_right (spD_len fun ds B k e h => by obtain ⟨rfl, hB, hk⟩ := h; rfl) (fun cdv A outer s H vs Q E hr h => ?_)
  have G_Forward_has : FnOk P w K mg base (L2.CX P w) 11 _ _ _ _ := okD_Forward_has T
  have G_Forward_init : FnOk P w K mg base (L2.CX P w) 14 _ _ _ _ := okD_Forward_init T
  have G_l_draw : FnOk P w K mg base (L2.CX P w) 1 _ _ _ _ := okD_l_draw T
  have G_l_mul : FnOk P w K mg base (L2.CX P w) 1 _ _ _ _ := okD_l_mul T
  have G_l_pick : FnOk P w K mg base (L2.CX P w) 2 _ _ _ _ := okD_l_pick T
  have G_l_place : FnOk P w K mg base (L2.CX P w) 6 _ _ _ _ := okD_l_place T
  have G_l_shuffled : FnOk P w K mg base (L2.CX P w) 4 _ _ _ _ := okD_l_shuffled T
  have G_l_truth : FnOk P w K mg base (L2.CX P w) 1 _ _ _ _ := okD_l_truth T
  obtain ⟨G, ds, B, k, e, hs, hR, ⟨rfl, hB, hk⟩, hK, hX⟩ := h
  refine ⟨_, (pss_cons (ps_par (i := 1) (j := 2) (by rfl) sc_l_ring_right.nd rfl rfl (by decide) rfl rfl (pa_cons (pe_call G_l_pick (hr.mono (by decide)) (by rfl) T.g_l_pick T.F_l_pick.kp T.b_l_pick .nil passL (pa_cons (pv 0) (pa_cons (pe_lst (pa_cons pe_int (pa_cons pe_int (pa_cons pe_int pa_nil)))) pa_nil))) (pa_cons (pe_lst pa_nil) pa_nil)) (by rfl))
 (pss_cons (ps_for (passes_of rfl) rfl (pi_range1 (by rfl) T.n_range (pa_cons (pe_op op_add pe_int (pe_call G_l_draw (hr.mono (by decide)) (by rfl) T.g_l_draw T.F_l_draw.kp T.b_l_draw .nil passL (pa_cons (pv 0) (pa_cons pe_int pa_nil)))) pa_nil)) (pg_name (i := 3) sc_l_ring_right.nd rfl (.inl rfl))
 (pss_one (ps_expr (pe_bm PySem.F.plainAttrs_list PySem.F.slot_list_append PySem.F.type_list_append mt_append (pv 2) (pa_cons (pe_tup (pa_cons (pe_call G_l_draw (hr.mono (by decide)) (by rfl) T.g_l_draw T.F_l_draw.kp T.b_l_draw .nil passL (pa_cons (pv 0) (pa_cons (pv 1) pa_nil))) (pa_cons (pe_call G_l_draw (hr.mono (by decide)) (by rfl) T.g_l_draw T.F_l_draw.kp T.b_l_draw .nil passL (pa_cons (pv 0) (pa_cons (pv 1) pa_nil))) (pa_cons (pe_call G_l_draw (hr.mono (by decide)) (by rfl) T.g_l_draw T.F_l_draw.kp T.b_l_draw .nil passL (pa_cons (pv 0) (pa_cons (pv 1) pa_nil))) pa_nil)))) pa_nil)))))
 (pss_cons (ps_par (i := 4) (j := 5) (by rfl) sc_l_ring_right.nd rfl rfl (by decide) rfl rfl (pa_cons (pe_lst (pa_cons (pe_tup (pa_cons pe_int (pa_cons pe_int (pa_cons pe_int pa_nil)))) pa_nil)) (pa_cons (pe_lst (pa_cons (pe_tup (pa_cons pe_int (pa_cons pe_int (pa_cons pe_int pa_nil)))) pa_nil)) pa_nil)) (by rfl))
 (pss_cons (ps_for (passes_of rfl) rfl (pi_range1 (by rfl) T.n_range (pa_cons pe_int pa_nil)) (pg_name (i := 6) sc_l_ring_right.nd rfl (.inl rfl))
 (pss_cons (ps_if (pt_cmpR (op_eqD hr.units) (pv 5) (pe_lst pa_nil) (nomark _))
 (pss_one ps_break)
 pss_nil)
 (pss_cons (ps_set (i := 7) sc_l_ring_right.nd rfl (.inl rfl) (pe_bm0 PySem.F.plainAttrs_list PySem.F.slot_list_pop PySem.F.type_list_pop mt_pop (pv 5)))
 (pss_one (ps_for (passes_of rfl) rfl (pi_list (pv 2)) (pg_name (i := 8) sc_l_ring_right.nd rfl (.inl rfl))
 (pss_cons (ps_set (i := 9) sc_l_ring_right.nd rfl (.inl rfl) (pe_call G_l_mul (hr.mono (by decide)) (by rfl) T.g_l_mul T.F_l_mul.kp T.b_l_mul .nil passL (pa_cons (pv 7) (pa_cons (pv 8) pa_nil))))
 (pss_cons (ps_set (i := 9) sc_l_ring_right.nd rfl (.inl rfl) (pe_tup (pa_cons (pe_op op_modN (pe_callTy call_int1 (by rfl) T.n_int (by decide +kernel) (pa_cons (pe_ix ix_tup (pv 9) pe_int (fun _ _ => rfl)) pa_nil)) (pv 1)) (pa_cons (pe_op op_modN (pe_callTy call_int1 (by rfl) T.n_int (by decide +kernel) (pa_cons (pe_ix ix_tup (pv 9) pe_int (fun _ _ => rfl)) pa_nil)) (pv 1)) (pa_cons (pe_op op_modN (pe_callTy call_int1 (by rfl) T.n_int (by decide +kernel) (pa_cons (pe_ix ix_tup (pv 9) pe_int (fun _ _ => rfl)) pa_nil)) (pv 1)) pa_nil)))))
 (pss_one (ps_if (pt_cmpR (op_ninL (un65 hr)) (pv 9) (pv 4) (by rfl))
 (pss_cons (ps_expr (pe_bm PySem.F.plainAttrs_list PySem.F.slot_list_append PySem.F.type_list_append mt_append (pv 4) (pa_cons (pv 9) pa_nil)))
 (pss_one (ps_expr (pe_bm PySem.F.plainAttrs_list PySem.F.slot_list_append PySem.F.type_list_append mt_append (pv 5) (pa_cons (pv 9) pa_nil)))))
 pss_nil)))))))))
 (pss_cons (ps_set (i := 10) sc_l_ring_right.nd rfl (.inl rfl) (pe_lst (pa_cons (pe_tup (pa_cons (pv 1) (pa_cons pe_int (pa_cons pe_int pa_nil)))) (pa_cons (pe_tup (pa_cons pe_int (pa_cons (pv 1) (pa_cons pe_int pa_nil)))) (pa_cons (pe_tup (pa_cons (pe_un un_neg (pv 1)) (pa_cons (pe_un un_neg (pv 1)) (pa_cons pe_int pa_nil)))) (pa_cons (pe_tup (pa_cons pe_int (pa_cons pe_int (pa_cons (pv 1) pa_nil)))) pa_nil))))))
 (pss_cons (ps_set (i := 11) sc_l_ring_right.nd rfl (.inl rfl) (pe_make T.M_Forward G_Forward_init (hr.mono (by decide)) (by rfl) T.g_C_Forward T.b_Forward_init .nil passL (pa_cons (pe_lc (te := (tCall (spD K (pr_l_place T)) [] E0 (tCons (tVar 8) tNil))) (own := [("_law_row_here", 8)]) (g := gName 8) (by rfl) sc_l_ring_right.nd (pi_list (pe_call G_l_shuffled (hr.mono (by decide)) (by rfl) T.g_l_shuffled T.F_l_shuffled.kp T.b_l_shuffled .nil passL (pa_cons (pv 0) (pa_cons (pe_op op_cat (pv 2) (pv 10)) pa_nil)))) (blkOk_by (own := [("_law_row_here", 8)]) (N := N_l_ring_right) (sc := defScope s_l_ring_right) (by decide +kernel)) (fun _ _ _ _ _ => pg_name (i := 8) sc_l_ring_right.nd rfl (Or.inl rfl)) (fun _ _ _ _ _ => pts_nil) (fun _ _ _ _ _ => (pe_call G_l_place (hr.mono (by decide)) (by rfl) T.g_l_place T.F_l_place.kp T.b_l_place .nil passL (pa_cons (pv 8) pa_nil)))) pa_nil)))
 (pss_cons (ps_for (passes_of rfl) rfl (pi_range1 (by rfl) T.n_range (pa_cons (pe_op op_mulW (pe_op op_mulW (pv 1) (pv 1)) (pv 1)) pa_nil)) (pg_name (i := 3) sc_l_ring_right.nd rfl (.inl rfl))
 (pss_cons (ps_set (i := 8) sc_l_ring_right.nd rfl (.inl rfl) (pe_tup (pa_cons (pe_op op_fdivG (pv 3) (pe_op op_mulW (pv 1) (pv 1))) (pa_cons (pe_op op_modN (pe_callTy call_int1 (by rfl) T.n_int (by decide +kernel) (pa_cons (pe_op op_fdivG (pv 3) (pv 1)) pa_nil)) (pv 1)) (pa_cons (pe_op op_modN (pe_callTy call_int1 (by rfl) T.n_int (by decide +kernel) (pa_cons (pv 3) pa_nil)) (pv 1)) pa_nil)))))
 (pss_cons (ps_set (i := 12) sc_l_ring_right.nd rfl (.inl rfl) (pe_tup (pa_cons (pe_op op_add (pe_ix ix_tup (pv 8) pe_int (fun _ _ => rfl)) (pe_op op_mulW (pv 1) (pe_op op_sub (pe_call G_l_draw (hr.mono (by decide)) (by rfl) T.g_l_draw T.F_l_draw.kp T.b_l_draw .nil passL (pa_cons (pv 0) (pa_cons pe_int pa_nil))) pe_int))) (pa_cons (pe_ix ix_tup (pv 8) pe_int (fun _ _ => rfl)) (pa_cons (pe_op op_add (pe_ix ix_tup (pv 8) pe_int (fun _ _ => rfl)) (pe_op op_mulW (pv 1) (pe_op op_sub (pe_call G_l_draw (hr.mono (by decide)) (by rfl) T.g_l_draw T.F_l_draw.kp T.b_l_draw .nil passL (pa_cons (pv 0) (pa_cons pe_int pa_nil))) pe_int))) pa_nil)))))
 (pss_one (ps_if (pt_not (pt_val (pe_call G_l_truth (hr.mono (by decide)) (by rfl) T.g_l_truth T.F_l_truth.kp T.b_l_truth .nil passL (pa_cons (pe_meth (pv 11) T.cl_Forward T.M_Forward_has G_Forward_has (hr.mono (by decide)) T.b_Forward_has .nil passL (pa_cons (pe_call G_l_place (hr.mono (by decide)) (by rfl) T.g_l_place T.F_l_place.kp T.b_l_place .nil passL (pa_cons (pv 12) pa_nil)) pa_nil)) (pa_cons (pe_cmpR (op_inD (un65 hr)) (pv 8) (pv 4) (by rfl)) pa_nil)))))
 (pss_one (ps_ret pe_bl))
 pss_nil)))))
 (pss_one (ps_ret pe_bl))))))))), run_body (ρ := [some penF, none, none, none, none, none, none, none, none, none, none, none, none]) hs hR hK hX rfl ?_⟩
  have zL : 1000 < sizeLine := by decide
  have z3 : 3 ≤ sizeLine := by decide
  have z4 : 4 ≤ sizeLine := by decide
  refine wx_own ?_
  refine wx_cut (fun ρ' O' B' => (∃ (n : Nat) (t : Addr), ρ' = [some penF, some (.int (n : Nat)), some (.val (.ref t)), none, none, none, none, none, none, none, none, none, none] ∧ O' = [(t, .list [])] ∧ 0 < n ∧ n ≤ 4) ∧ B' ≤ B + 1) ?_ ?_
  · refine wx_parW <| waw_cons <| wew_we <| we_call <| wa_cons <| we_var rfl <| wa_cons <| we_lst <| wa_cons <| we_int <| wa_cons <| we_int <| wa_cons <| we_int <| wa_nil ⟨z3, wa_nil ⟨_, rfl, by show 0 < 3; decide, by show 3 ≤ 1000000; decide, by omega, fun d hd => waw_cons <| wew_newlst <| wa_nil ⟨Nat.zero_le _, fun t => waw_nil ⟨_, _, rfl, ?_⟩⟩⟩⟩
    simp only [List.mem_cons, List.not_mem_nil, or_false] at hd
    rcases hd with rfl | rfl | rfl
    · exact ⟨⟨2, t, rfl, rfl, by decide, by decide⟩, by omega⟩
    · exact ⟨⟨3, t, rfl, rfl, by decide, by decide⟩, by omega⟩
    · exact ⟨⟨4, t, rfl, rfl, by decide, by decide⟩, by omega⟩
  rintro _ _ B1 ⟨⟨n, t, rfl, rfl, n0, n4⟩, hB1⟩
  have n6 : n ≤ 6 := by omega
  have n1 : (0 : Int) < n := by omega
  have nz : (n : Int) ≠ 0 := by omega
  have bnl : Bd 8999 (n : Int) := (bnat n6 (by decide)).1
  have n3 : n * n * n ≤ 64 := by
    have h1 := Nat.mul_le_mul n4 n4
    have h2 := Nat.mul_le_mul h1 n4
    omega
  refine wx_cut (fun ρ' O' B' => (∃ (told : List P3) (o3 : Option D), ρ' = [some penF, some (.int (n : Nat)), some (.val (.ref t)), o3, none, none, none, none, none, none, none, none, none] ∧ O' = [(t, .list (told.map tpD))] ∧ told.length ≤ 3 ∧ ∀ t ∈ told, InR n t) ∧ B' ≤ B + 20) ?_ ?_
  · refine wx_for_range1 <| wa_cons <| we_op <| we_int <| we_call <| wa_cons <| we_var rfl <| wa_cons <| we_int <| wa_nil ⟨_, rfl, by decide, bdl (by decide), by omega, fun d d0 d1 => ro_i0 <| wa_nil ⟨_, rfl, by omega, by omega, fun k ρ' O' B' => (∃ (told : List P3) (o3 : Option D), ρ' = [some penF, some (.int (n : Nat)), some (.val (.ref t)), o3, none, none, none, none, none, none, none, none, none] ∧ O' = [(t, .list (told.map tpD))] ∧ told.length = k ∧ ∀ t ∈ told, InR n t) ∧ B' ≤ B + 2 + 3 * (k : Int), ⟨⟨[], none, rfl, rfl, rfl, fun t ht => nomatch ht⟩, by omega⟩, fun k ρ' O' B' hk1 hI => ?_, fun ρ' O' B' hI => ?_⟩⟩
    · obtain ⟨⟨told, o3, rfl, rfl, hl, ht⟩, hB'⟩ := hI
      have hk4 : k < 3 := by omega
      refine wg_name <| wx_appV <| we_var rfl ⟨t, rfl, ⟨_, List.mem_cons_self ..⟩, wew_we <| we_tup <| wa_cons <| we_call <| wa_cons <| we_var rfl <| wa_cons <| we_var rfl <| wa_nil ⟨_, rfl, n1, bnl, by omega, fun x x0 x1 => wa_cons <| we_call <| wa_cons <| we_var rfl <| wa_cons <| we_var rfl <| wa_nil ⟨_, rfl, n1, bnl, by omega, fun y y0 y1 => wa_cons <| we_call <| wa_cons <| we_var rfl <| wa_cons <| we_var rfl <| wa_nil ⟨_, rfl, n1, bnl, by omega, fun z z0 z1 => wa_nil ⟨z3, 0, _, rfl, by rw [List.length_map]; omega, ⟨told ++ [(x, y, z)], _, rfl, by rw [List.map_append]; rfl, by rw [List.length_append, hl]; rfl, fun w hw => ?_⟩, by push_cast; omega⟩⟩⟩⟩⟩
      rcases List.mem_append.mp hw with h | h
      · exact ht w h
      · rw [List.mem_singleton.mp h]; exact ⟨⟨x0, x1⟩, ⟨y0, y1⟩, z0, z1⟩
    · obtain ⟨⟨told, o3, rfl, rfl, hl, ht⟩, hB'⟩ := hI
      exact ⟨⟨told, o3, rfl, rfl, by omega, ht⟩, by omega⟩
  rintro _ _ B2 ⟨⟨told, o3, rfl, rfl, htl, hIn⟩, hB2⟩
  have hsz : ∀ t ∈ told, Bd 64 t.1 ∧ Bd 64 t.2.1 := fun t h => (inR_sm n6 (hIn t h)).bd
  refine wx_tell (i := 2) rfl <| wx_ws ?_
  refine ws_know (i := 2) rfl rfl fun a0 => wx_own ?_
  refine wx_cut (fun ρ' O' B' => (∃ p q, ρ' = [some penF, some (.int (n : Nat)), some (.at_ (.ref a0) (.lst (told.map tpD))), o3, some (.val (.ref p)), some (.val (.ref q)), none, none, none, none, none, none, none] ∧ O' = [(q, .list ([e0].map tpD)), (p, .list ([e0].map tpD))]) ∧ B2 = B') ?_ ?_
  · exact wx_parW <| waw_cons <| wew_newlst <| wa_cons <| we_tup <| wa_cons <| we_int <| wa_cons <| we_int <| wa_cons <| we_int <| wa_nil ⟨Nat.le_of_ble_eq_true rfl, wa_nil ⟨Nat.le_of_ble_eq_true rfl, fun p => waw_cons <| wew_newlst <| wa_cons <| we_tup <| wa_cons <| we_int <| wa_cons <| we_int <| wa_cons <| we_int <| wa_nil ⟨Nat.le_of_ble_eq_true rfl, wa_nil ⟨Nat.le_of_ble_eq_true rfl, fun q => waw_nil ⟨_, _, rfl, ⟨p, q, rfl, rfl⟩, rfl⟩⟩⟩⟩⟩
  rintro _ _ _ ⟨⟨p, q, rfl, rfl⟩, rfl⟩
  refine wx_cut (fun ρ' O' B' => (∃ (F : List P3) (o4 o5 o6 o7 : Option D), ρ' = [some penF, some (.int (n : Nat)), some (.at_ (.ref a0) (.lst (told.map tpD))), o3, some (.val (.ref p)), some (.val (.ref q)), o4, o5, o6, o7, none, none, none] ∧ O' = [(q, .list []), (p, .list (F.map tpD))] ∧ Tried n told F) ∧ B2 = B') ?_ ?_
  · skip
    refine wx_for_range1 <| wa_cons <| we_int <| wa_nil ⟨64, rfl, by decide, by decide, fun k ρ' O' B' => (∃ (F W : List P3) (o4 o5 o6 o7 : Option D), ρ' = [some penF, some (.int (n : Nat)), some (.at_ (.ref a0) (.lst (told.map tpD))), o3, some (.val (.ref p)), some (.val (.ref q)), o4, o5, o6, o7, none, none, none] ∧ O' = [(q, .list (W.map tpD)), (p, .list (F.map tpD))] ∧ TI n told F W k) ∧ B2 = B', ⟨⟨[e0], [e0], none, none, none, none, rfl, rfl, ⟨by simp, fun f hf => ?_, by simp, fun f hf => ?_, fun f hf hn => absurd hf hn, fun f hf => hf, rfl⟩⟩, rfl⟩, fun k ρ' O' B' hk1 hI => ?_, fun ρ' O' B' hI => ?_⟩
    · rw [List.mem_singleton.mp hf]; exact ⟨⟨Int.le_refl _, n1⟩, ⟨Int.le_refl _, n1⟩, Int.le_refl _, n1⟩
    · rw [List.mem_singleton.mp hf]
      exact ⟨e0, (gen_sb told).one, rg_id ⟨⟨Int.le_refl _, n1⟩, ⟨Int.le_refl _, n1⟩, Int.le_refl _, n1⟩⟩
    · obtain ⟨⟨F, W, o4, o5, o6, o7, rfl, rfl, hT⟩, rfl⟩ := hI
      have fl := inR_len hT.nd hT.inr
      refine wg_name ?_
      refine wx_cut (fun ρ' O' B' => (∃ (o4 : Option D), ρ' = [some penF, some (.int (n : Nat)), some (.at_ (.ref a0) (.lst (told.map tpD))), o3, some (.val (.ref p)), some (.val (.ref q)), o4, o5, o6, o7, none, none, none] ∧ O' = [(q, .list (W.map tpD)), (p, .list (F.map tpD))] ∧ W ≠ []) ∧ B2 = B') ?_ ?_
      · refine wx_if_peek (n := 0) (i := 5) rfl rfl <| wt_test <| we_op <| we_var rfl <| we_lst <| wa_nil ⟨Nat.zero_le _, ro_eqD (ok_tpL W) rfl (sh_tpL W) sh_nil ?_⟩
        rw [eqv_nl]
        refine ⟨_, rfl, fun h => ?_, fun h => wx_next ⟨⟨_, rfl, rfl, of_decide_eq_false h⟩, rfl⟩⟩
        have h := of_decide_eq_true h
        subst h
        exact wx_ws <| ws_break ⟨⟨F, _, _, _, _, rfl, rfl, hT.done⟩, rfl⟩
      rintro _ _ _ ⟨⟨o4, rfl, rfl, hW⟩, rfl⟩
      obtain ⟨W', h, rfl⟩ : ∃ W' h, W = W' ++ [h] := ⟨W.dropLast, W.getLast hW, (List.dropLast_concat_getLast hW).symm⟩
      have hcnt := hT.cnt
      rw [List.length_append] at hcnt
      have hcnt : F.length = W'.length + 1 + k := hcnt
      refine wx_cut (fun ρ' O' B' => (∃ (hF : h ∈ F), ρ' = [some penF, some (.int (n : Nat)), some (.at_ (.ref a0) (.lst (told.map tpD))), o3, some (.val (.ref p)), some (.val (.ref q)), o4, some (tpD h), o6, o7, none, none, none] ∧ O' = [(q, .list (W'.map tpD)), (p, .list (F.map tpD))]) ∧ B2 = B') ?_ ?_
      · refine wx_setW <| wew_pop <| we_var rfl ⟨q, 0, W'.map tpD, tpD h, rfl, by rw [List.map_append]; rfl, ⟨?_, rfl, rfl⟩, rfl⟩
        exact hT.sub h (List.mem_append_right _ (by simp))
      rintro _ _ _ ⟨⟨hF, rfl, rfl⟩, rfl⟩
      have hR := hT.inr h hF
      have bh : Bd 64 h.1 := by have := hR.1; unfold Bd; omega
      refine wx_for_listA rfl ⟨fun i ρ' O' B' => (∃ (F' W2 : List P3) (o6 o7 : Option D), ρ' = [some penF, some (.int (n : Nat)), some (.at_ (.ref a0) (.lst (told.map tpD))), o3, some (.val (.ref p)), some (.val (.ref q)), o4, some (tpD h), o6, o7, none, none, none] ∧ O' = [(q, .list (W2.map tpD)), (p, .list (F'.map tpD))] ∧ F'.Nodup ∧ (∀ f ∈ F', InR n f) ∧ e0 ∈ F' ∧ (∀ f ∈ F', ∃ q, Gen told q ∧ rg n q = f) ∧ (∀ f ∈ F', ¬ f ∈ W2 → f ≠ h → ∀ t ∈ told, rg n (mu f t) ∈ F') ∧ (∀ t ∈ told.take i, rg n (mu h t) ∈ F') ∧ (∀ f ∈ W2, f ∈ F') ∧ h ∈ F' ∧ F'.length = W2.length + (k + 1)) ∧ B2 = B', ⟨⟨F, W', _, _, rfl, rfl, hT.nd, hT.inr, hT.one, hT.by_, fun f hf hn hne => hT.cl f hf (fun z => ?_), (fun t ht => nomatch ht), (fun f hf => hT.sub f (List.mem_append_left _ hf)), hF, by omega⟩, rfl⟩, ?_, fun i x ρ' O' B' hx hI => ?_, fun ρ' O' B' hI => ?_⟩
      · rcases List.mem_append.mp z with z | z
        · exact hn z
        · exact hne (List.mem_singleton.mp z)
      · rintro i ρ' O' B' ⟨⟨F', W2, o6, o7, rfl, _⟩, _⟩; rfl
      · obtain ⟨⟨F', W2, o6, o7, rfl, rfl, j1, j2, j3, j4, j5, j6, j8, j9, j7⟩, rfl⟩ := hI
        obtain ⟨t, ht, rfl⟩ := at_map hx
        have htm := List.mem_of_getElem? ht
        have bt := hsz t htm
        have fl' := inR_len j1 j2
        refine wg_name ?_
        have hnn : (n : Int) ≠ 0 := by omega
        have em : ∀ z : Int, z % (n : Int) = z.fmod n := fun z => (Int.fmod_eq_emod_of_nonneg _ (by omega)).symm
        have er : D.tup [.int ((mu h t).1.fmod (n : Int)), .int ((mu h t).2.1.fmod (n : Int)), .int ((mu h t).2.2.fmod (n : Int))] = tpD (rg n (mu h t)) := by
          unfold rg
          rw [em, em, em]
        refine wx_seq <| wx_ws <| ws_set <| we_call <| wa_cons <| we_var rfl <| wa_cons <| we_var rfl <| wa_nil ⟨h, t, rfl, cmc (bh.mono (by decide)) (bt.2.mono (by decide)), ?_⟩
        refine wx_seq <| wx_ws <| ws_set <| we_tup <| wa_cons <| we_op <| we_intof <| wa_cons <| ix rfl rfl <| wa_nil ⟨_, rfl, we_var rfl <| ro_i hnn <| wa_cons <| we_op <| we_intof <| wa_cons <| ix rfl rfl <| wa_nil ⟨_, rfl, we_var rfl <| ro_i hnn <| wa_cons <| we_op <| we_intof <| wa_cons <| ix rfl rfl <| wa_nil ⟨_, rfl, we_var rfl <| ro_i hnn <| wa_nil ⟨Nat.le_of_ble_eq_true rfl, ?_⟩⟩⟩⟩
        rw [er]
        have tk : ∀ {P : P3 → Prop}, (∀ t ∈ told.take i, P t) → P t → ∀ t ∈ told.take (i + 1), P t := fun h1 h2 t' ht' => by
          rw [List.take_add_one, ht] at ht'
          rcases List.mem_append.mp ht' with z | z
          · exact h1 t' z
          · rw [show t' = t by simpa using z]; exact h2
        refine wx_if_peek (n := 1) (i := 4) rfl rfl <| wt_test <| we_op <| we_var rfl <| we_var rfl <| ro_ninL rfl (ok_tpL F') rfl (sh_tpL F') ?_
        rw [any_tp]
        refine ⟨_, rfl, fun hb => ?_, fun hb => ?_⟩
        · have hb := ndec hb
          refine wx_seq <| wx_appV <| we_var rfl ⟨p, rfl, ⟨_, List.mem_cons_of_mem _ (List.mem_cons_self ..)⟩, wew_we <| we_var rfl ⟨1, _, rfl, by rw [List.length_map]; omega, ?_⟩⟩
          refine wx_appV <| we_var rfl ⟨q, rfl, ⟨_, List.mem_cons_self ..⟩, wew_we <| we_var rfl ⟨0, _, rfl, by rw [List.length_map]; omega, ⟨F' ++ [rg n (mu h t)], W2 ++ [rg n (mu h t)], _, _, rfl, ?_, ?_, fun f hf => ?_, List.mem_append_left _ j3, fun f hf => ?_, fun f hf hn hne t' ht' => ?_, tk (fun t' ht' => List.mem_append_left _ (j6 t' ht')) (List.mem_append_right _ (by simp)), (fun f hf => (List.mem_append.mp hf).elim (fun z => List.mem_append_left _ (j8 f z)) (fun z => List.mem_append_right _ z)), List.mem_append_left _ j9, by rw [List.length_append, List.length_append, j7]; show _ + 1 = _ + 1 + _; omega⟩, rfl⟩⟩
          · show [(q, OC.list _), (p, OC.list _)] = _
            rw [List.map_append, List.map_append]; rfl
          · rw [List.nodup_append]
            exact ⟨j1, by simp, fun a ha b hb' e => hb (by rw [List.mem_singleton.mp hb'] at e; rw [← e]; exact ha)⟩
          · rcases List.mem_append.mp hf with z | z
            · exact j2 f z
            · rw [List.mem_singleton.mp z]; exact rg_in n1 _
          · rcases List.mem_append.mp hf with z | z
            · exact j4 f z
            · rw [List.mem_singleton.mp z]
              obtain ⟨g, hg, eg⟩ := j4 h j9
              exact ⟨mu g t, (gen_sb told).mul _ _ hg (gen_mem htm), by rw [← eg, rg_mr]⟩
          · rcases List.mem_append.mp hf with z | z
            · exact List.mem_append_left _ (j5 f z (fun w => hn (List.mem_append_left _ w)) hne t' ht')
            · exact absurd (List.mem_append_right _ z) hn
        · have hb := ydec hb
          exact wx_next ⟨⟨F', W2, _, _, rfl, rfl, j1, j2, j3, j4, j5, tk j6 hb, j8, j9, j7⟩, rfl⟩
      · obtain ⟨⟨F', W2, o6, o7, rfl, rfl, j1, j2, j3, j4, j5, j6, j8, j9, j7⟩, rfl⟩ := hI
        rw [List.length_map, List.take_length] at j6
        refine ⟨⟨F', W2, _, _, _, _, rfl, rfl, j1, j2, j3, j4, fun f hf hn t ht => ?_, j8, by omega⟩, rfl⟩
        by_cases e : f = h
        · rw [e]; exact j6 t ht
        · exact j5 f hf hn e t ht
    · obtain ⟨⟨F, W, o4, o5, o6, o7, rfl, rfl, hT⟩, rfl⟩ := hI
      have fl := inR_len hT.nd hT.inr
      have hc := hT.cnt
      have hc : F.length = W.length + 64 := hc
      have n64 := n3
      have hW : W = [] := List.eq_nil_of_length_eq_zero (by omega)
      subst hW
      exact ⟨⟨F, _, _, _, _, rfl, rfl, hT.done⟩, rfl⟩
  rintro _ _ _ ⟨⟨F, o4, o5, o6, o7, rfl, rfl, hF⟩, rfl⟩
  refine wx_tell (i := 5) rfl <| wx_tell (i := 4) rfl <| wx_ws ?_
  have hFl := inR_len hF.nd hF.inr
  refine ws_seq <| ws_set <| we_lst <| wa_cons <| we_tup <| wa_cons <| we_var rfl <| wa_cons <| we_int <| wa_cons <| we_int <| wa_nil ⟨z3, wa_cons <| we_tup <| wa_cons <| we_int <| wa_cons <| we_var rfl <| wa_cons <| we_int <| wa_nil ⟨z3, wa_cons <| we_tup <| wa_cons <| we_neg <| we_var rfl ⟨_, rfl, wa_cons <| we_neg <| we_var rfl ⟨_, rfl, wa_cons <| we_int <| wa_nil ⟨z3, wa_cons <| we_tup <| wa_cons <| we_int <| wa_cons <| we_int <| wa_cons <| we_var rfl <| wa_nil ⟨z3, wa_nil ⟨z4, ?_⟩⟩⟩⟩⟩⟩⟩
  have hWs : ∀ w ∈ told ++ wdW n, Sm6 w := fun w hw => by
    rcases List.mem_append.mp hw with h | h
    · exact inR_sm n6 (hIn w h)
    · simp only [wdW, List.mem_cons, List.not_mem_nil, or_false] at h
      have an : ab (n : Int) ≤ 6 := by unfold Tbl.ab; omega
      have am : ab (-(n : Int)) ≤ 6 := by unfold Tbl.ab; omega
      have a0 : ab (0 : Int) ≤ 6 := by decide
      rcases h with rfl | rfl | rfl | rfl
      · exact ⟨an, a0, a0⟩
      · exact ⟨a0, an, a0⟩
      · exact ⟨am, am, a0⟩
      · exact ⟨a0, a0, an⟩
  refine ws_cut (fun ρ' B' => (∃ (M L : List P3) (c : Int) (ls : List (Nat × Int × Nat)) (mids : List Nat) (ws : List D) (o8 : Option D), ρ' = [some penF, some (.int (n : Nat)), some (.at_ (.ref a0) (.lst (told.map tpD))), o3, some (.lst (F.map tpD)), some (.lst []), o4, o5, o8, o7, some (.lst ((wdW n).map tpD)), some (fwD T M L c ls mids ws), none] ∧ TabOk M L c ls mids ∧ (∀ x, x ∈ told ++ wdW n ↔ x ∈ M)) ∧ B' ≤ B + 50) ?_ ?_
  · refine ws_set <| we_make <| wa_cons <| we_lc_toldL (E1 := E0) (f := tpD) (g := plp T) <| we_call <| wa_cons <| we_var rfl <| wa_cons <| we_op <| we_varA rfl <| we_var rfl <| ro_catL (by rw [List.length_map]; show _ + 4 ≤ _; omega) <| wa_nil ⟨told ++ wdW n, by rw [List.map_append]; rfl, by rw [List.length_append]; show _ + 4 ≤ 20; omega, by omega, fun M B3 hM hx hB3 => ?_⟩
    have hMl : M.length ≤ 7 := by rw [hM, List.length_append]; show _ + 4 ≤ 7; omega
    have hMs : ∀ w ∈ M, Sm6 w := fun w hw => hWs w ((hx w).mpr hw)
    refine ⟨M, rfl, by omega, fun x hx k' hk' => we_call <| wa_cons <| we_var rfl <| wa_nil ⟨x, rfl, hk'⟩, wa_nil ⟨3, 7, M, rfl, fun w hw => (hMs w hw).dom, tb37 hMl, fun w hw => ⟨(hMs w hw).bd.1.mono (by decide), (hMs w hw).bd.2.mono (by decide)⟩, ?_, fun L c ls mids ws hT => ⟨⟨M, L, c, ls, mids, ws, _, rfl, hT, hx⟩, by omega⟩⟩⟩
    refine around_of [((n : Int), (0 : Int)), (0, n), (-n, -n)] (endsn n1) fun e he => ?_
    simp only [List.mem_cons, List.not_mem_nil, or_false] at he
    rcases he with rfl | rfl | rfl
    · exact ⟨((n : Int), 0, 0), (hx _).mp (List.mem_append_right _ (by simp [wdW])), rfl, rfl⟩
    · exact ⟨(0, (n : Int), 0), (hx _).mp (List.mem_append_right _ (by simp [wdW])), rfl, rfl⟩
    · exact ⟨(-(n : Int), -(n : Int), 0), (hx _).mp (List.mem_append_right _ (by simp [wdW])), rfl, rfl⟩
  rintro _ B4 ⟨⟨M, L, c, ls, mids, ws, o8, rfl, hT, hx⟩, hB4⟩
  have hMs : ∀ w ∈ M, Sm6 w := fun w hw => hWs w ((hx w).mpr hw)
  have hRT := ringT_wd n0 hT hx hF
  have hTb : Tb 12 L c := tab_tb hT (fun w hw => (hMs w hw).td) (by decide) (by decide)
  have enn : (n : Int) * n = ((n * n : Nat) : Int) := by push_cast; rfl
  have en2 : (n : Int) * n * n = ((n * n * n : Nat) : Int) := by push_cast; rfl
  have bn1 : Bd BIG (n : Int) := (bnat n6 (by decide)).1
  have bn2 : Bd BIG ((n : Int) * n) := (bnat n6 (by decide)).2
  have nnz : (n : Int) * n ≠ 0 := by rw [enn]; have := Nat.mul_pos n0 n0; omega
  have d2 : ∀ z : Int, CDivG z ((n : Int) * n) := fun z => dvg nnz (bnat n6 (by decide)).2
  have d1 : ∀ z : Int, CDivG z (n : Int) := fun z => dvg nz (bnat n6 (by decide)).1
  refine ws_cut (fun ρ' B' => True) ?_ ?_
  · refine ws_for_range1 <| wa_cons <| we_op <| we_op <| we_var rfl <| we_var rfl <| ro_i (cmc bn1 bn1) <| we_var rfl <| ro_i (cmc bn2 bn1) <| wa_nil ⟨_, rfl, by rw [en2]; omega, by rw [en2]; omega, fun k ρ' B' => (∃ (o3 o8 o12 : Option D), ρ' = [some penF, some (.int (n : Nat)), some (.at_ (.ref a0) (.lst (told.map tpD))), o3, some (.lst (F.map tpD)), some (.lst []), o4, o5, o8, o7, some (.lst ((wdW n).map tpD)), some (fwD T M L c ls mids ws), o12]) ∧ B' ≤ B + 50 + 2 * (k : Int), ⟨⟨o3, o8, none, rfl⟩, by omega⟩, fun k ρ' B' hk1 hI => ?_, fun ρ' B' hI => trivial⟩
    obtain ⟨⟨o3, o8, o12, rfl⟩, hB'⟩ := hI
    rw [en2] at hk1
    have hk3 : k < n * n * n := hk1
    obtain ⟨hIn', hIx⟩ := ring_at hk3
    refine wg_name ?_
    rw [Int.zero_add]
    have er : D.tup [.int (((k : Nat) : Int).fdiv ((n : Int) * n)), .int ((((k : Nat) : Int).fdiv (n : Int)).fmod (n : Int)), .int (((k : Nat) : Int).fmod (n : Int))] = tpD (ringAt n k) := by
      rw [enn, fdN, fdN, fmN, fmN]; rfl
    refine ws_cut (fun ρ' B2 => ρ' = [some penF, some (.int (n : Nat)), some (.at_ (.ref a0) (.lst (told.map tpD))), some (.int (k : Nat)), some (.lst (F.map tpD)), some (.lst []), o4, o5, some (tpD (ringAt n k)), o7, some (.lst ((wdW n).map tpD)), some (fwD T M L c ls mids ws), o12] ∧ B' = B2) ?_ ?_
    · refine ws_set <| we_tup <| wa_cons <| we_op <| we_var rfl <| we_op <| we_var rfl <| we_var rfl <| ro_i (cmc bn1 bn1) <| ro_i (d2 _) <| wa_cons <| we_op <| we_intof <| wa_cons <| we_op <| we_var rfl <| we_var rfl <| ro_i (d1 _) <| wa_nil ⟨_, rfl, we_var rfl <| ro_i nz <| wa_cons <| we_op <| we_intof <| wa_cons <| we_var rfl <| wa_nil ⟨_, rfl, we_var rfl <| ro_i nz <| wa_nil ⟨Nat.le_of_ble_eq_true rfl, ?_⟩⟩⟩
      rw [er]
      exact ⟨rfl, rfl⟩
    rintro _ _ ⟨rfl, rfl⟩
    have bI := inR_bd n6 hIn' (k := 400) (by decide)
    refine ws_cut (fun ρ' B2 => (∃ far : P3, ρ' = [some penF, some (.int (n : Nat)), some (.at_ (.ref a0) (.lst (told.map tpD))), some (.int (k : Nat)), some (.lst (F.map tpD)), some (.lst []), o4, o5, some (tpD (ringAt n k)), o7, some (.lst ((wdW n).map tpD)), some (fwD T M L c ls mids ws), some (tpD far)] ∧ rg n far = ringAt n k ∧ SzP 64 far) ∧ B2 ≤ B + 50 + 2 * (k : Int) + 2) ?_ ?_
    · have sm : ∀ {z : Int}, z.natAbs < 2 ^ 64 → Bd BIG z := fun h => (show Bd 64 _ from h).mono (by decide)
      refine ws_set <| we_tup <| wa_cons <| we_op <| ix rfl rfl <| we_op <| we_var rfl <| we_op <| we_call <| wa_cons <| we_var rfl <| wa_cons <| we_int <| wa_nil ⟨99, rfl, by decide, bdl (by decide), by omega, fun x x0 x1 => we_int <| ro_i0 <| ro_i (cmc bn1 (sm (by omega))) <| ro_i0 <| wa_cons <| ix rfl rfl <| wa_cons <| we_op <| ix rfl rfl <| we_op <| we_var rfl <| we_op <| we_call <| wa_cons <| we_var rfl <| wa_cons <| we_int <| wa_nil ⟨99, rfl, by decide, bdl (by decide), by omega, fun z z0 z1 => we_int <| ro_i0 <| ro_i (cmc bn1 (sm (by omega))) <| ro_i0 <| wa_nil ⟨z3, ⟨((ringAt n k).1 + n * (x - 50), (ringAt n k).2.1, (ringAt n k).2.2 + n * (z - 50)), rfl, ?_, ?_⟩, by omega⟩⟩⟩
      · rw [← rg_id hIn', rg_iff]
        refine ⟨⟨x - 50, ?_⟩, ⟨0, ?_⟩, z - 50, ?_⟩
        · rw [rg_id hIn']; show (ringAt n k).1 + n * (x - 50) - (ringAt n k).1 = _; omega
        · rw [rg_id hIn']; show (ringAt n k).2.1 - (ringAt n k).2.1 = _; omega
        · rw [rg_id hIn']; show (ringAt n k).2.2 + n * (z - 50) - (ringAt n k).2.2 = _; omega
      · have i1 := hIn'.1; have i2 := hIn'.2.1; have i3 := hIn'.2.2
        have hx1 : (n : Int) * x ≤ 4 * 98 := Int.mul_le_mul (by omega) (by omega) x0 (by decide)
        have hx0 : 0 ≤ (n : Int) * x := Int.mul_nonneg (by omega) x0
        have hz1 : (n : Int) * z ≤ 4 * 98 := Int.mul_le_mul (by omega) (by omega) z0 (by decide)
        have hz0 : 0 ≤ (n : Int) * z := Int.mul_nonneg (by omega) z0
        have ex : (n : Int) * (x - 50) = n * x - 50 * n := by rw [Int.mul_sub]; omega
        have ez : (n : Int) * (z - 50) = n * z - 50 * n := by rw [Int.mul_sub]; omega
        refine ⟨?_, ?_, ?_⟩
        · show Bd 64 ((ringAt n k).1 + n * (x - 50)); rw [ex]; unfold Bd; omega
        · show Bd 64 (ringAt n k).2.1; unfold Bd; omega
        · show Bd 64 ((ringAt n k).2.2 + n * (z - 50)); rw [ez]; unfold Bd; omega
    rintro _ B5 ⟨⟨far, rfl, hfar, sfar⟩, hB5⟩
    refine ws_if <| wt_not <| wt_val <| we_call <| wa_cons <| we_meth <| we_var rfl ⟨_, _, rfl, by decide +kernel, wa_cons <| we_call <| wa_cons <| we_var rfl <| wa_nil ⟨far, rfl, wa_nil ⟨12, 64, M, L, c, ls, mids, ws, far, rfl, hTb, by decide, by decide, sfar.1, sfar.2.1, fun b hb => wa_cons <| we_op <| we_var rfl <| we_var rfl <| ro_inL rfl (ok_tpL F) rfl (sh_tpL F) ?_⟩⟩⟩
    rw [any_tp]
    have e : b = decide (ringAt n k ∈ F) := by
      rw [Bool.eq_iff_iff, hb, hRT.iff, hfar, decide_eq_true_eq]
    rw [e]
    exact wa_nil ⟨_, _, rfl, _, rfl, (fun h => absurd rfl (ndec h)), fun _ => ws_next ⟨⟨_, _, _, rfl⟩, by push_cast; omega⟩⟩
  rintro _ B6 _
  exact ws_ret <| we_bl <| hk B6
end
end AW

set_option linter.all false
set_option maxRecDepth 100000
set_option maxHeartbeats 8000000
namespace AW
open PySem PySem.Spec PyProof.Rows L2 LamX Tbl
variable [Tbs]
section
variable {P : Program} {w : World} {K : PySem.W.Frag} {mg : Str → Option Value} {base : Heap}
def pr_law (T : Tx K mg) : Pr := fun ds B k e => ∃ ns : List Int, ds = [.scr ns] ∧ ns.length ≤ 63 ∧ B = 0 ∧ ∀ B', k (.bl true) B'
theorem okD_law (T : Tx K mg) : FnOk P w K mg base (L2.CX P w) 17 T.a_law T.d_law P_law (spD K (pr_law T)) := by
  refine T.F_law.okX sc_law (spD_len fun ds B k e h => by obtain ⟨ns, rfl, hl, rfl, hk⟩ := h; rfl) (fun cdv A outer s H vs Q E hr h => ?_)
  have G_l_begin : FnOk P w K mg base (L2.CX P w) 1 _ _ _ _ := okD_l_begin T
  have G_l_far_right : FnOk P w K mg base (L2.CX P w) 16 _ _ _ _ := okD_l_far_right T
  have G_l_ring_right : FnOk P w K mg base (L2.CX P w) 16 _ _ _ _ := okD_l_ring_right T
  obtain ⟨G, ds, B, k, e, hs, hR, ⟨ns, rfl, hl, rfl, hk⟩, hK, hX⟩ := h
  refine ⟨_, (pss_cons (ps_set (i := 1) sc_law.nd rfl (.inl rfl) (pe_call G_l_begin (hr.mono (by decide)) (by rfl) T.g_l_begin T.F_l_begin.kp T.b_l_begin .nil passL (pa_cons (pv 0) pa_nil)))
 (pss_one (ps_ret (pe_and (pe_call G_l_far_right (hr.mono (by decide)) (by rfl) T.g_l_far_right T.F_l_far_right.kp T.b_l_far_right .nil passL (pa_cons (pv 1) pa_nil)) (pe_one (pe_call G_l_ring_right (hr.mono (by decide)) (by rfl) T.g_l_ring_right T.F_l_ring_right.kp T.b_l_ring_right .nil passL (pa_cons (pv 1) pa_nil))))))), run_body (ρ := [some (.scr ns), none]) hs hR hK hX rfl ?_⟩
  refine ws_seq <| ws_set <| we_call <| wa_cons <| we_var rfl <| wa_nil ⟨ns, rfl, hl, Int.le_refl _, ?_⟩
  exact ws_ret <| we_and <| we_call <| wa_cons <| we_var rfl <| wa_nil ⟨rfl, by decide, fun B' hB' => ⟨_, rfl, (fun _ => we_call <| wa_cons <| we_var rfl <| wa_nil ⟨rfl, by omega, fun B2 => hk B2⟩), fun h => nomatch h⟩⟩
end
end AW

namespace AW
open PySem PySem.Spec PyProof.Rows L2
/-- the law, called as the statement calls it -/
theorem law_at {l : PySem.W.OpenLaw} {w : World} {K : PySem.W.Frag} {mg : Str → Option Value} {fa : Addr} {h : Heap} (T : Tx K mg) (ea : T.a_law = fa) :
    LamX.LawAtS l w K (L2.CX l.prog w) 17 63 "_law_script" mg fa h := by
  subst ea
  letI : Tbs := ⟨[]⟩
  refine ⟨T.d_law, [], spLaw K, (fun p hp => by cases hp), (fun p hp => by cases hp), (fun p hp => by cases hp), fun s u => ?_, fun H a ns hl _ hH hS => ?_, fun base KB hm hb => ?_⟩
  · obtain ⟨oc, od, kV, doc, pm, an, cdv, ct, osl, e, lk, hcd⟩ := T.F_law.ex
    rw [e]
    exact BindsTo.of_eq rfl
  · exact ⟨a, ns, rfl, hS, hl, fun q hq => (by cases hq), fun H' => rfl⟩
  · exact ((okD_law T).mono (by decide)).imp (spLaw_imp fun ns k hl hk => ⟨ns, rfl, hl, rfl, hk⟩)
end AW
local macro_rules
  | `(tactic| refine $e:term) => do
    let s := e.raw
    if s.isOfKind `Lean.Parser.Term.app && s[0].isIdent && s[0].getId.eraseMacroScopes == `HeadRun.left_impK then
      `(tactic| refine AW.left_impG AW.hd0 AW.hd1 AW.hd2 AW.hd3 AW.hd4 AW.hd5 ?_)
    else Lean.Macro.throwUnsupported
open PySem PySem.W PyProof.Rows in
set_option maxRecDepth 100000 in
set_option maxHeartbeats 0 in
theorem PySem.Challenge.cw_areawalks_k36_whole_forward_places_holds : PySem.Challenge.rw_areawalks_k36_whole_forward_places.Holds := by
  w_on; o_law; k_headL; (case hw => w_witness2)
  k_fill
  refine LamX.walk_ofTs (l := PySem.Challenge.rw_areawalks_k36_whole_forward_places) (n := 63) (k := 17) (x := "_law_script") (CX := fun w => L2.CX (PySem.Challenge.rw_areawalks_k36_whole_forward_places).prog w) rfl (by decide) rfl ⟨rfl, by decide, by decide⟩ (fun w h Y => PySem.W.kIn_of Y) ?F ?G
  case G =>
    intro w H s e s' h
    obtain ⟨_, _, _, _, _, _, _, _, _, _, _, _, z⟩ := h
    exact z.elim
  case F =>
    intro w mg fa h Y KX G hmg
    refine' AW.tx_mk  KX G hmg ?g_is_integer ?l_is_integer ?c_is_integer ?k_is_integer ?g_check_integer ?l_check_integer ?c_check_integer ?k_check_integer ?g_check_place ?l_check_place ?c_check_place ?k_check_place ?g_check_places ?l_check_places ?c_check_places ?k_check_places ?g_home_place ?l_home_place ?c_home_place ?k_home_place ?g_is_multiple ?l_is_multiple ?c_is_multiple ?k_is_multiple ?g_form_value ?l_form_value ?c_form_value ?k_form_value ?g_bezout ?l_bezout ?c_bezout ?k_bezout ?g_ledge_forms ?l_ledge_forms ?c_ledge_forms ?k_ledge_forms ?g_failed_form ?l_failed_form ?c_failed_form ?k_failed_form ?g_end_powers ?l_end_powers ?c_end_powers ?k_end_powers ?g_ledge_product ?l_ledge_product ?c_ledge_product ?k_ledge_product ?g_height_over ?l_height_over ?c_height_over ?k_height_over ?g_is_made ?l_is_made ?c_is_made ?k_is_made ?g_made_numbers ?l_made_numbers ?c_made_numbers ?k_made_numbers ?g_end_x ?l_end_x ?c_end_x ?k_end_x ?g_end_y ?l_end_y ?c_end_y ?k_end_y ?g_swept_area ?l_swept_area ?c_swept_area ?k_swept_area ?g_gathered ?l_gathered ?c_gathered ?k_gathered ?g_divided ?l_divided ?c_divided ?k_divided ?g_lowered ?l_lowered ?c_lowered ?k_lowered ?g_swapped ?l_swapped ?c_swapped ?k_swapped ?g_half_of ?l_half_of ?c_half_of ?k_half_of ?g_wheel_of ?l_wheel_of ?c_wheel_of ?k_wheel_of ?g_l_begin ?l_l_begin ?c_l_begin ?k_l_begin ?g_l_draw ?l_l_draw ?c_l_draw ?k_l_draw ?g_l_pick ?l_l_pick ?c_l_pick ?k_l_pick ?g_l_ten ?l_l_ten ?c_l_ten ?k_l_ten ?g_l_long ?l_l_long ?c_l_long ?k_l_long ?g_l_size ?l_l_size ?c_l_size ?k_l_size ?g_l_number ?l_l_number ?c_l_number ?k_l_number ?g_l_whole_is ?l_l_whole_is ?c_l_whole_is ?k_l_whole_is ?g_l_truth ?l_l_truth ?c_l_truth ?k_l_truth ?g_l_mul ?l_l_mul ?c_l_mul ?k_l_mul ?g_l_undo ?l_l_undo ?c_l_undo ?k_l_undo ?g_l_pow ?l_l_pow ?c_l_pow ?k_l_pow ?g_l_prod ?l_l_prod ?c_l_prod ?k_l_prod ?g_l_place ?l_l_place ?c_l_place ?k_l_place ?g_l_row ?l_l_row ?c_l_row ?k_l_row ?g_l_ledge_right ?l_l_ledge_right ?c_l_ledge_right ?k_l_ledge_right ?g_l_figures ?l_l_figures ?c_l_figures ?k_l_figures ?g_l_brewed ?l_l_brewed ?c_l_brewed ?k_l_brewed ?g_l_table_right ?l_l_table_right ?c_l_table_right ?k_l_table_right ?g_l_returned_right ?l_l_returned_right ?c_l_returned_right ?k_l_returned_right ?g_l_made ?l_l_made ?c_l_made ?k_l_made ?g_l_round ?l_l_round ?c_l_round ?k_l_round ?g_l_shuffled ?l_l_shuffled ?c_l_shuffled ?k_l_shuffled ?g_l_far_right ?l_l_far_right ?c_l_far_right ?k_l_far_right ?g_l_ring_right ?l_l_ring_right ?c_l_ring_right ?k_l_ring_right ?g_law ?l_law ?c_law ?k_law ?g_C_BadNumber ?m_BadNumber_init ?i_BadNumber_init ?l_BadNumber_init ?c_BadNumber_init ?k_BadNumber_init ?sa_BadNumber ?ex_BadNumber ?ty_BadNumber ?kc_BadNumber ?x_BadNumber ?na_BadNumber_value ?g_C_BadPlace ?m_BadPlace_init ?i_BadPlace_init ?l_BadPlace_init ?c_BadPlace_init ?k_BadPlace_init ?sa_BadPlace ?ex_BadPlace ?ty_BadPlace ?kc_BadPlace ?x_BadPlace ?na_BadPlace_value ?g_C_Place ?pg_Place ?hd_Place ?po_Place ?sa_Place ?ca_Place ?cm_Place ?na_Place_x ?na_Place_y ?na_Place_area ?m_Place_init ?i_Place_init ?l_Place_init ?c_Place_init ?k_Place_init ?mk_Place ?kc_Place ?m_Place_eq ?i_Place_eq ?l_Place_eq ?c_Place_eq ?k_Place_eq ?ne_Place ?m_Place_mul ?i_Place_mul ?l_Place_mul ?c_Place_mul ?k_Place_mul ?sf_Place_Mult ?ro_Place_Mult ?m_Place_power ?i_Place_power ?l_Place_power ?c_Place_power ?k_Place_power ?m_Place_twist ?i_Place_twist ?l_Place_twist ?c_Place_twist ?k_Place_twist ?g_C_Brew ?pg_Brew ?hd_Brew ?po_Brew ?sa_Brew ?na_Brew_places ?na_Brew_lines ?m_Brew_init ?i_Brew_init ?l_Brew_init ?c_Brew_init ?k_Brew_init ?mk_Brew ?kc_Brew ?m_Brew_add_line ?i_Brew_add_line ?l_Brew_add_line ?c_Brew_add_line ?k_Brew_add_line ?g_C_Table ?pg_Table ?hd_Table ?po_Table ?sa_Table ?ca_Table ?cm_Table ?na_Table_told ?na_Table_ledge ?na_Table_home ?na_Table_recipe ?na_Table_made ?m_Table_init ?i_Table_init ?l_Table_init ?c_Table_init ?k_Table_init ?mk_Table ?kc_Table ?m_Table_eq ?i_Table_eq ?l_Table_eq ?c_Table_eq ?k_Table_eq ?ne_Table ?m_Table_contains ?i_Table_contains ?l_Table_contains ?c_Table_contains ?k_Table_contains ?g_C_Forward ?pg_Forward ?hd_Forward ?po_Forward ?sa_Forward ?na_Forward_whole ?na_Forward_told ?na_Forward_half ?na_Forward_around ?na_Forward_wheel ?m_Forward_init ?i_Forward_init ?l_Forward_init ?c_Forward_init ?k_Forward_init ?mk_Forward ?kc_Forward ?m_Forward_table ?i_Forward_table ?l_Forward_table ?c_Forward_table ?k_Forward_table ?m_Forward_has ?i_Forward_has ?l_Forward_has ?c_Forward_has ?k_Forward_has ?m_Forward_check_reach ?i_Forward_check_reach ?l_Forward_check_reach ?c_Forward_check_reach ?k_Forward_check_reach ?cn ?ct ?io_Place_int ?io_Place_bool ?is_NoneType_Place ?is_bool_Place ?is_int_Place ?is_str_Place ?is_list_Place ?is_tuple_Place ?is_dict_Place ?n_all ?n_bool ?n_enumerate ?n_int ?n_isinstance ?n_len ?n_list ?n_max ?n_min ?n_range ?n_tuple ?n_zip ?gc_MOST_TOLD ?mi_gcd ?kk
    (case g_is_integer => k_is)
    (case l_is_integer => k_is)
    (case c_is_integer => k_is)
    (case k_is_integer => k_is)
    (case g_check_integer => k_is)
    (case l_check_integer => k_is)
    (case c_check_integer => k_is)
    (case k_check_integer => k_is)
    (case g_check_place => k_is)
    (case l_check_place => k_is)
    (case c_check_place => k_is)
    (case k_check_place => k_is)
    (case g_check_places => k_is)
    (case l_check_places => k_is)
    (case c_check_places => k_is)
    (case k_check_places => k_is)
    (case g_home_place => k_is)
    (case l_home_place => k_is)
    (case c_home_place => k_is)
    (case k_home_place => k_is)
    (case g_is_multiple => k_is)
    (case l_is_multiple => k_is)
    (case c_is_multiple => k_is)
    (case k_is_multiple => k_is)
    (case g_form_value => k_is)
    (case l_form_value => k_is)
    (case c_form_value => k_is)
    (case k_form_value => k_is)
    (case g_bezout => k_is)
    (case l_bezout => k_is)
    (case c_bezout => k_is)
    (case k_bezout => k_is)
    (case g_ledge_forms => k_is)
    (case l_ledge_forms => k_is)
    (case c_ledge_forms => k_is)
    (case k_ledge_forms => k_is)
    (case g_failed_form => k_is)
    (case l_failed_form => k_is)
    (case c_failed_form => k_is)
    (case k_failed_form => k_is)
    (case g_end_powers => k_is)
    (case l_end_powers => k_is)
    (case c_end_powers => k_is)
    (case k_end_powers => k_is)
    (case g_ledge_product => k_is)
    (case l_ledge_product => k_is)
    (case c_ledge_product => k_is)
    (case k_ledge_product => k_is)
    (case g_height_over => k_is)
    (case l_height_over => k_is)
    (case c_height_over => k_is)
    (case k_height_over => k_is)
    (case g_is_made => k_is)
    (case l_is_made => k_is)
    (case c_is_made => k_is)
    (case k_is_made => k_is)
    (case g_made_numbers => k_is)
    (case l_made_numbers => k_is)
    (case c_made_numbers => k_is)
    (case k_made_numbers => k_is)
    (case g_end_x => k_is)
    (case l_end_x => k_is)
    (case c_end_x => k_is)
    (case k_end_x => k_is)
    (case g_end_y => k_is)
    (case l_end_y => k_is)
    (case c_end_y => k_is)
    (case k_end_y => k_is)
    (case g_swept_area => k_is)
    (case l_swept_area => k_is)
    (case c_swept_area => k_is)
    (case k_swept_area => k_is)
    (case g_gathered => k_is)
    (case l_gathered => k_is)
    (case c_gathered => k_is)
    (case k_gathered => k_is)
    (case g_divided => k_is)
    (case l_divided => k_is)
    (case c_divided => k_is)
    (case k_divided => k_is)
    (case g_lowered => k_is)
    (case l_lowered => k_is)
    (case c_lowered => k_is)
    (case k_lowered => k_is)
    (case g_swapped => k_is)
    (case l_swapped => k_is)
    (case c_swapped => k_is)
    (case k_swapped => k_is)
    (case g_half_of => k_is)
    (case l_half_of => k_is)
    (case c_half_of => k_is)
    (case k_half_of => k_is)
    (case g_wheel_of => k_is)
    (case l_wheel_of => k_is)
    (case c_wheel_of => k_is)
    (case k_wheel_of => k_is)
    (case g_l_begin => k_is)
    (case l_l_begin => k_is)
    (case c_l_begin => k_is)
    (case k_l_begin => k_is)
    (case g_l_draw => k_is)
    (case l_l_draw => k_is)
    (case c_l_draw => k_is)
    (case k_l_draw => k_is)
    (case g_l_pick => k_is)
    (case l_l_pick => k_is)
    (case c_l_pick => k_is)
    (case k_l_pick => k_is)
    (case g_l_ten => k_is)
    (case l_l_ten => k_is)
    (case c_l_ten => k_is)
    (case k_l_ten => k_is)
    (case g_l_long => k_is)
    (case l_l_long => k_is)
    (case c_l_long => k_is)
    (case k_l_long => k_is)
    (case g_l_size => k_is)
    (case l_l_size => k_is)
    (case c_l_size => k_is)
    (case k_l_size => k_is)
    (case g_l_number => k_is)
    (case l_l_number => k_is)
    (case c_l_number => k_is)
    (case k_l_number => k_is)
    (case g_l_whole_is => k_is)
    (case l_l_whole_is => k_is)
    (case c_l_whole_is => k_is)
    (case k_l_whole_is => k_is)
    (case g_l_truth => k_is)
    (case l_l_truth => k_is)
    (case c_l_truth => k_is)
    (case k_l_truth => k_is)
    (case g_l_mul => k_is)
    (case l_l_mul => k_is)
    (case c_l_mul => k_is)
    (case k_l_mul => k_is)
    (case g_l_undo => k_is)
    (case l_l_undo => k_is)
    (case c_l_undo => k_is)
    (case k_l_undo => k_is)
    (case g_l_pow => k_is)
    (case l_l_pow => k_is)
    (case c_l_pow => k_is)
    (case k_l_pow => k_is)
    (case g_l_prod => k_is)
    (case l_l_prod => k_is)
    (case c_l_prod => k_is)
    (case k_l_prod => k_is)
    (case g_l_place => k_is)
    (case l_l_place => k_is)
    (case c_l_place => k_is)
    (case k_l_place => k_is)
    (case g_l_row => k_is)
    (case l_l_row => k_is)
    (case c_l_row => k_is)
    (case k_l_row => k_is)
    (case g_l_ledge_right => k_is)
    (case l_l_ledge_right => k_is)
    (case c_l_ledge_right => k_is)
    (case k_l_ledge_right => k_is)
    (case g_l_figures => k_is)
    (case l_l_figures => k_is)
    (case c_l_figures => k_is)
    (case k_l_figures => k_is)
    (case g_l_brewed => k_is)
    (case l_l_brewed => k_is)
    (case c_l_brewed => k_is)
    (case k_l_brewed => k_is)
    (case g_l_table_right => k_is)
    (case l_l_table_right => k_is)
    (case c_l_table_right => k_is)
    (case k_l_table_right => k_is)
    (case g_l_returned_right => k_is)
    (case l_l_returned_right => k_is)
    (case c_l_returned_right => k_is)
    (case k_l_returned_right => k_is)
    (case g_l_made => k_is)
    (case l_l_made => k_is)
    (case c_l_made => k_is)
    (case k_l_made => k_is)
    (case g_l_round => k_is)
    (case l_l_round => k_is)
    (case c_l_round => k_is)
    (case k_l_round => k_is)
    (case g_l_shuffled => k_is)
    (case l_l_shuffled => k_is)
    (case c_l_shuffled => k_is)
    (case k_l_shuffled => k_is)
    (case g_l_far_right => k_is)
    (case l_l_far_right => k_is)
    (case c_l_far_right => k_is)
    (case k_l_far_right => k_is)
    (case g_l_ring_right => k_is)
    (case l_l_ring_right => k_is)
    (case c_l_ring_right => k_is)
    (case k_l_ring_right => k_is)
    (case g_law => k_is)
    (case l_law => k_is)
    (case c_law => k_is)
    (case k_law => k_is)
    (case g_C_BadNumber => k_is)
    (case m_BadNumber_init => k_is)
    (case i_BadNumber_init => k_is)
    (case l_BadNumber_init => k_is)
    (case c_BadNumber_init => k_is)
    (case k_BadNumber_init => k_is)
    (case sa_BadNumber => k_is)
    (case ex_BadNumber => k_is)
    (case ty_BadNumber => k_is)
    (case kc_BadNumber => k_is)
    (case x_BadNumber => k_is)
    (case na_BadNumber_value => k_is)
    (case g_C_BadPlace => k_is)
    (case m_BadPlace_init => k_is)
    (case i_BadPlace_init => k_is)
    (case l_BadPlace_init => k_is)
    (case c_BadPlace_init => k_is)
    (case k_BadPlace_init => k_is)
    (case sa_BadPlace => k_is)
    (case ex_BadPlace => k_is)
    (case ty_BadPlace => k_is)
    (case kc_BadPlace => k_is)
    (case x_BadPlace => k_is)
    (case na_BadPlace_value => k_is)
    (case g_C_Place => k_is)
    (case pg_Place => k_is)
    (case hd_Place => k_is)
    (case po_Place => k_is)
    (case sa_Place => k_is)
    (case ca_Place => k_is)
    (case cm_Place => k_is)
    (case na_Place_x => k_is)
    (case na_Place_y => k_is)
    (case na_Place_area => k_is)
    (case m_Place_init => k_is)
    (case i_Place_init => k_is)
    (case l_Place_init => k_is)
    (case c_Place_init => k_is)
    (case k_Place_init => k_is)
    (case mk_Place => k_is)
    (case kc_Place => k_is)
    (case m_Place_eq => k_is)
    (case i_Place_eq => k_is)
    (case l_Place_eq => k_is)
    (case c_Place_eq => k_is)
    (case k_Place_eq => k_is)
    (case ne_Place => k_is)
    (case m_Place_mul => k_is)
    (case i_Place_mul => k_is)
    (case l_Place_mul => k_is)
    (case c_Place_mul => k_is)
    (case k_Place_mul => k_is)
    (case sf_Place_Mult => k_is)
    (case ro_Place_Mult => k_is)
    (case m_Place_power => k_is)
    (case i_Place_power => k_is)
    (case l_Place_power => k_is)
    (case c_Place_power => k_is)
    (case k_Place_power => k_is)
    (case m_Place_twist => k_is)
    (case i_Place_twist => k_is)
    (case l_Place_twist => k_is)
    (case c_Place_twist => k_is)
    (case k_Place_twist => k_is)
    (case g_C_Brew => k_is)
    (case pg_Brew => k_is)
    (case hd_Brew => k_is)
    (case po_Brew => k_is)
    (case sa_Brew => k_is)
    (case na_Brew_places => k_is)
    (case na_Brew_lines => k_is)
    (case m_Brew_init => k_is)
    (case i_Brew_init => k_is)
    (case l_Brew_init => k_is)
    (case c_Brew_init => k_is)
    (case k_Brew_init => k_is)
    (case mk_Brew => k_is)
    (case kc_Brew => k_is)
    (case m_Brew_add_line => k_is)
    (case i_Brew_add_line => k_is)
    (case l_Brew_add_line => k_is)
    (case c_Brew_add_line => k_is)
    (case k_Brew_add_line => k_is)
    (case g_C_Table => k_is)
    (case pg_Table => k_is)
    (case hd_Table => k_is)
    (case po_Table => k_is)
    (case sa_Table => k_is)
    (case ca_Table => k_is)
    (case cm_Table => k_is)
    (case na_Table_told => k_is)
    (case na_Table_ledge => k_is)
    (case na_Table_home => k_is)
    (case na_Table_recipe => k_is)
    (case na_Table_made => k_is)
    (case m_Table_init => k_is)
    (case i_Table_init => k_is)
    (case l_Table_init => k_is)
    (case c_Table_init => k_is)
    (case k_Table_init => k_is)
    (case mk_Table => k_is)
    (case kc_Table => k_is)
    (case m_Table_eq => k_is)
    (case i_Table_eq => k_is)
    (case l_Table_eq => k_is)
    (case c_Table_eq => k_is)
    (case k_Table_eq => k_is)
    (case ne_Table => k_is)
    (case m_Table_contains => k_is)
    (case i_Table_contains => k_is)
    (case l_Table_contains => k_is)
    (case c_Table_contains => k_is)
    (case k_Table_contains => k_is)
    (case g_C_Forward => k_is)
    (case pg_Forward => k_is)
    (case hd_Forward => k_is)
    (case po_Forward => k_is)
    (case sa_Forward => k_is)
    (case na_Forward_whole => k_is)
    (case na_Forward_told => k_is)
    (case na_Forward_half => k_is)
    (case na_Forward_around => k_is)
    (case na_Forward_wheel => k_is)
    (case m_Forward_init => k_is)
    (case i_Forward_init => k_is)
    (case l_Forward_init => k_is)
    (case c_Forward_init => k_is)
    (case k_Forward_init => k_is)
    (case mk_Forward => k_is)
    (case kc_Forward => k_is)
    (case m_Forward_table => k_is)
    (case i_Forward_table => k_is)
    (case l_Forward_table => k_is)
    (case c_Forward_table => k_is)
    (case k_Forward_table => k_is)
    (case m_Forward_has => k_is)
    (case i_Forward_has => k_is)
    (case l_Forward_has => k_is)
    (case c_Forward_has => k_is)
    (case k_Forward_has => k_is)
    (case m_Forward_check_reach => k_is)
    (case i_Forward_check_reach => k_is)
    (case l_Forward_check_reach => k_is)
    (case c_Forward_check_reach => k_is)
    (case k_Forward_check_reach => k_is)
    (case cn => k_is)
    (case ct => k_is)
    (case io_Place_int => kit_is)
    (case io_Place_bool => kit_is)
    (case is_NoneType_Place => kit_is)
    (case is_bool_Place => kit_is)
    (case is_int_Place => kit_is)
    (case is_str_Place => kit_is)
    (case is_list_Place => kit_is)
    (case is_tuple_Place => kit_is)
    (case is_dict_Place => kit_is)
    (case n_all => k_is)
    (case n_bool => k_is)
    (case n_enumerate => k_is)
    (case n_int => k_is)
    (case n_isinstance => k_is)
    (case n_len => k_is)
    (case n_list => k_is)
    (case n_max => k_is)
    (case n_min => k_is)
    (case n_range => k_is)
    (case n_tuple => k_is)
    (case n_zip => k_is)
    (case gc_MOST_TOLD => k_is)
    (case mi_gcd => k_is)
    (case kk =>
      intro T ea
      exact AW.law_at T ea)

