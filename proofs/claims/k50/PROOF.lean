import PyProof.Rows.All
import Wide.All
import OpenK.AllK
import Wide.FinOn
import PyProof.InstEq
import HandS.ForMost
import HandS.IsInst
import HandS.OwnEq
import HandS.SlotsOwn
import HandS.NamedTupSort
import HandS.Exc
import HandS.TryMany
import HandS.ExcField
import HandS.WordsExc
import HandS.Lambda
import OpenK.KOwn
import HandS.Gcd
import HandS.ExcOwn
import HandS.Small
import PyProof.ExcBaseAll.ValueError
import KE.KCallOwn
import HandS.Deep
import KE.DatumOrd
import KE.LtData
import HandS.ExcInit
import HandS.Wide
import HandS.Walk
import HandS.Style
import HandS.Zip
import HandS.NoneIn
import HandS.CallLocal
import HandS.List
import KE.RegKIsAll
import KE.RegKTryMore
import KE.KNestM
import HandS.MakeKw
import HandS.Defaults
import KE.KEqSeq
import HandS.EndTab
import PySem.Challenge.RW_areawalks_k50_whole_lists_are_carried
set_option Elab.async false
set_option linter.all false
set_option maxRecDepth 100000
set_option maxHeartbeats 4000000
/-! own operators of an instance, whatever stands on the right -/
namespace AWR
open PySem PySem.W PyProof.Rows Builtin
section
variable {prog : Program} {w : World} {A : Around} {E : Value → Shared → Prop} {s : Shared} {K : Frag} {x C f : Addr} {ox : Obj} {oD : Option Obj} {b tb : Value}
/-- x != b by object.__ne__, the own __eq__ behind it -/
theorem one_ne {Q : Value → Shared → Prop} (hu : A.units + 1 < cLine) (X : K.In s.heap) (iv : InstAt s.heap x ox C oD)
    (hne : findIn K (.ref C) "__ne__" = some (some (.builtin "object.__ne__"))) (hm : mroIn K C (.type "object") = some true)
    (hs : findIn K (.ref C) "__eq__" = some (some (.ref f))) (hf : isFn K (.ref f) = true)
    (h : wpAny (model prog w) A.in1 (call (.ref f) [.ref x, b]) (fun v s' => ∃ r, v = .bool r ∧ Q (.bool (!r)) s') E s) :
    wpAny (model prog w) A (tryCompare (.ref x) "__ne__" b) (fun r s' => ∃ v, r = some v ∧ Q v s') E s := by
  simp only [tryCompare]
  have lookN : Looks (model prog w) s.heap (specialOf (.ref x) "__ne__") (some (.builtin "object.__ne__")) := fun A Q E s' k q => wpAny_bind ((iv.type.keeps k).here ((looks_findIn (X.keeps k) hne).here q))
  have L2 : Looks (model prog w) s.heap (isInstance (.ref x) (.type "object")) true := iv.type.andThen (looks_mroIn X hm)
  refine wpAny_bind (NtL.csib lookN (by kernel_rfl) ?_)
  refine wpAny_call (codeAny_call_builtin (by decide +kernel) F.cmpEntry_ne (check_slot F.cmpKind_ne F.cmpSplit_ne L2 (F.cmpArgs_ne _ _) ?_))
  unfold Builtin.«object.__ne__»
  repeat (first
    | with_reducible refine wpAny_cRoomFor hu ?_
    | (refine wpAny_bind (m := callSpecialIfBound? (.ref x) (Str.ofString "__eq__") [b]) (ifBound_K X iv hs hf (wpAny_mono h (fun r s' hr => by
          obtain ⟨q, rfl, kq⟩ := hr
          repeat (first | exact ⟨_, rfl, wpAny_pure ⟨_, rfl, kq⟩⟩ | exact wpAny_pure ⟨_, rfl, kq⟩ | exact wpAny_truthy_bool ⟨_, rfl, kq⟩ | (refine wpAny_bind (m := truthy (.bool _)) (wpAny_truthy_bool ?_)) | wp_step)) fun _ _ e => e)))
    | wp_step)
theorem ne_K {Q : Value → Shared → Prop} (hu : A.units + 1 < cLine) (X : K.In s.heap) (iv : InstAt s.heap x ox C oD) (hb : Looks (model prog w) s.heap (typeOf b) tb) (hn : notFirst K C tb = true)
    (hne : findIn K (.ref C) "__ne__" = some (some (.builtin "object.__ne__"))) (hm : mroIn K C (.type "object") = some true)
    (hs : findIn K (.ref C) "__eq__" = some (some (.ref f))) (hf : isFn K (.ref f) = true)
    (h : wpAny (model prog w) A.in1 (call (.ref f) [.ref x, b]) (fun v s' => ∃ r, v = .bool r ∧ Q (.bool (!r)) s') E s) : wpAny (model prog w) A (richCompare .NotEq (.ref x) b) Q E s := by
  have cmp1 := one_ne (b := b) (Q := Q) hu X iv hne hm hs hf h
  unfold richCompare
  simp only [oneThing_ref]
  refine wpAny_holding (wpAny_bind (wpAny_cRoomFor (Nat.lt_of_succ_lt hu) ?_))
  refine wpAny_bind (iv.type.here (wpAny_bind (hb.here ?_)))
  split
  · rename_i q
    have e : subIn K tb (.ref C) = some false := by
      rcases Bool.or_eq_true_iff.mp hn with e | e
      · rw [beq_iff_eq.mp e] at q; simp at q
      · exact beq_iff_eq.mp e
    refine wpAny_bind ((looks_subIn X e).here ?_)
    simp only [Bool.false_eq_true, if_false]
    refine wpAny_bind (wpAny_mono cmp1 (fun r s' z => ?_) fun _ _ e => e)
    obtain ⟨v, rfl, kq⟩ := z
    exact wpAny_pure kq
  · refine wpAny_bind (wpAny_pure ?_)
    simp only [Bool.false_eq_true, if_false]
    refine wpAny_bind (wpAny_mono cmp1 (fun r s' z => ?_) fun _ _ e => e)
    obtain ⟨v, rfl, kq⟩ := z
    exact wpAny_pure kq
end
end AWR

set_option linter.all false
set_option maxRecDepth 100000
set_option maxHeartbeats 4000000
namespace AWR
open PySem PySem.W PyProof.Rows Builtin
section
variable {prog : Program} {w : World} {A : Around} {E : Value → Shared → Prop} {s : Shared} {K : Frag} {x C f : Addr} {ox : Obj} {od : Option Obj} {b tb : Value}
theorem tryM {nm : Str} {Q : Option Value → Shared → Prop} (X : K.In s.heap) (I : InstAt s.heap x ox C od) (hs : findIn K (.ref C) nm = some (some (.ref f))) (hf : isFn K (.ref f) = true)
    (h : wpAny (model prog w) A (call (.ref f) [.ref x, b]) (W.CmpBack fun v => Q (some v)) E s) : wpAny (model prog w) A (tryMethod (.ref x) nm b) Q E s := by
  unfold tryMethod
  refine wpAny_bind (special_fn X I hs (beq_iff_eq.mp hf) (wpAny_mono h (fun v s' hv => ?_) fun _ _ e => e))
  cases v <;> first | exact hv.elim | exact wpAny_pure hv
theorem fills_ty {M : Model} {h : Heap} {n nm : String} {r1 r2 : Option Value} (X : K.In h) (h1 : findIn K (.type n) (PySem.dunder nm) = some r1) (h2 : findIn K (.type n) (PySem.dunderR nm) = some r2) :
    Looks M h (fillsNumberSlot (.type n) nm) ((r1.isSome && !isSeqSlot r1) || (r2.isSome && !isSeqSlot r2)) := by
  unfold fillsNumberSlot
  exact (looks_findIn X h1).andThen ((looks_findIn X h2).andThen .now)
theorem inPy {M : Model} {h : Heap} {nm : String} (X : K.In h) (h1 : findIn K (.ref C) (PySem.dunder nm) = some (some (.ref f))) (h2 : findIn K (.ref C) (PySem.dunderR nm) = some none) :
    Looks M h (numberSlotInPython (.ref C) nm) true := by
  unfold numberSlotInPython
  refine (looks_findIn X h1).andThen ?_
  refine Looks.andThen (a := true) .now ?_
  refine (looks_findIn X h2).andThen ?_
  refine Looks.andThen (a := false) .now ?_
  exact .now
theorem binop_ty {op : Operator} {n : String} {r1 r2 : Option Value} {Q : Value → Shared → Prop} (X : K.In s.heap) (I : InstAt s.heap x ox C od) (hb : Looks (model prog w) s.heap (typeOf b) (.type n)) (hc : selfFirst K C = true)
    (hs : findIn K (.ref C) (PySem.dunder op.info.2) = some (some (.ref f))) (hr : findIn K (.ref C) (PySem.dunderR op.info.2) = some none) (hf : isFn K (.ref f) = true)
    (h1 : findIn K (.type n) (PySem.dunder op.info.2) = some r1) (h2 : findIn K (.type n) (PySem.dunderR op.info.2) = some r2) (hsub : subIn K (.type n) (.ref C) = some false)
    (h : wpAny (model prog w) A (call (.ref f) [.ref x, b]) (W.CmpBack Q) E s) : wpAny (model prog w) A (binaryOp op (.ref x) b) Q E s := by
  obtain ⟨cd, hcd, hm⟩ := any_some hc
  obtain ⟨rest, hm⟩ : ∃ rest, cd.mro = .ref C :: rest := by
    cases q : cd.mro with
    | nil => rw [q] at hm; cases hm
    | cons a r => rw [q] at hm; exact ⟨r, by rw [List.head?_cons] at hm; cases (beq_iff_eq.mp hm); rfl⟩
  unfold binaryOp
  refine wpAny_holding (wpAny_bind ?_)
  unfold binaryOp1
  refine wpAny_bind (I.type.here (wpAny_bind (hb.here (wpAny_bind ((fills_K X hcd hm hs).here ?_)))))
  rw [if_neg (by simp)]
  refine wpAny_bind ((fills_ty X h1 h2).here ?_)
  have last : wpAny (model prog w) A (tryMethod (.ref x) (PySem.dunder op.info.2) b) (fun r s' => ∃ v, r = some v ∧ Q v s') E s := tryM X I hs hf (wpAny_mono h (fun v s' hv => by cases v <;> first | exact hv.elim | exact ⟨_, rfl, hv⟩) fun _ _ e => e)
  cases hR : ((r1.isSome && !isSeqSlot r1) || (r2.isSome && !isSeqSlot r2)) with
  | false =>
    simp only [Bool.and_false, Bool.false_eq_true, if_false, Bool.false_and]
    refine wpAny_bind (wpAny_pure ?_)
    simp only [Bool.false_eq_true, if_false, if_true]
    refine wpAny_bind (m := tryMethod (.ref x) _ b) (wpAny_mono last (fun r s' z => ?_) fun _ _ e => e)
    obtain ⟨v, rfl, hq⟩ := z
    exact wpAny_pure (wpAny_pure hq)
  | true =>
    simp only [Bool.and_true, Bool.and_self, if_true]
    refine wpAny_bind ((looks_subIn X hsub).here ?_)
    simp only [Bool.false_eq_true, if_false]
    simp only [Bool.not_false, if_true]
    refine wpAny_bind ((inPy X hs hr).here ?_)
    simp only [if_true]
    refine wpAny_bind (m := numberSlotInPython (.type n) _) ?_
    refine wpAny_pure ?_
    simp only [Bool.not_false, if_true]
    refine wpAny_bind ((looks_findIn X h2).here ?_)
    refine wpAny_bind (m := tryMethod (.ref x) _ b) (wpAny_mono last (fun r s' z => ?_) fun _ _ e => e)
    obtain ⟨v, rfl, hq⟩ := z
    exact wpAny_pure (wpAny_pure hq)
end
end AWR

set_option linter.all false
set_option maxRecDepth 100000
set_option maxHeartbeats 4000000
namespace AW
open PySem PySem.Spec PyProof.Rows L2
section
variable {X : Cx} {CX : CXT} {k : Nat} {C f : Addr} {fd : FuncData} {ps : List Str} {sp : Sp} {E : XK}
/-- a def of the text runs, at some depth -/
theorem run_in {pins : List (Addr × Obj)} {σ : L2.St} {H : Hp} {s : Shared} {Q : VK} {us : List Value} {vs : List V} {A : Around} (F : FnOk X.prog X.w X.K X.mg X.base CX k f fd ps sp) (hr : Room k A) (fr : A.frames = X.A.frames) (hb : Binds X.K fd ps [])
    (hx : Passes CX X E) (iv : Inv X pins σ H s) (r : Vals vs us) (h : sp vs H Q E) : wpAny (model X.prog X.w) A (call (.ref f) us) (EP X pins σ Q) X.xe s := by
  have hl : (us ++ []).length = ps.length := by rw [List.append_nil, ← r.length]; exact F.len _ _ _ _ h
  have e0 : Env0 X.prog X.w X.K X.mg X.base A X.stack s H := by
    have e := iv.env0
    exact ⟨by rw [fr]; exact e.frames, e.mod, e.bs, e.bsz, e.funs, e.frf, e.hok, e.bare⟩
  refine wpAny_call (codeAny_mono (F.run A X.stack s H ⟨us, []⟩ us vs Q E hr e0 (by simpa using hb s us iv.kIn hl) r h) fun r s' kq => ?_)
  cases r with
  | error e => exact hx pins σ H s e s' iv kq
  | ok fl =>
    cases fl with
    | ret u => exact iv.after kq
    | next => exact False.elim kq
    | brk => exact False.elim kq
    | cont => exact False.elim kq
theorem rr (a : Addr) : L2.RelV (.ref a) (.ref a) := rfl
theorem in1_frames (A : Around) : A.in1.frames = A.frames := rfl
/-- the type of a value, read -/
theorem ty_looks {x : V} {u t : Value} {pins : List (Addr × Obj)} {σ : L2.St} {H : Hp} {s : Shared} (iv : Inv X pins σ H s) (rx : RelV x u) (ty : TyX X.K H x t) : PySem.W.Looks (model X.prog X.w) s.heap (typeOf u) t := by
  obtain ⟨P, Z, p, hx⟩ := kit_of iv rx ty
  exact Z.ty _ _ iv.kIn p
/-- what the class's == (own __eq__, object's __ne__) asks -/
structure EqC (K : PySem.W.Frag) (C f : Addr) : Prop where
  eq : PySem.W.findIn K (.ref C) "__eq__" = some (some (.ref f))
  fn : PySem.W.isFn K (.ref f) = true
  ne : PySem.W.findIn K (.ref C) "__ne__" = some (some (.builtin "object.__ne__"))
  mo : PySem.W.mroIn K C (.type "object") = some true
/-- a == b by the own __eq__ of a -/
def rEqO (K : PySem.W.Frag) (C : Addr) (sp : Sp) (E : XK) (g : Bool → Bool) : R2 := fun x y H Q => ∃ a dx fs t, x = .ref a ∧ H a = some (.ins C dx fs) ∧ TyX K H y t ∧ PySem.W.notFirst K C t = true ∧ sp [x, y] H (fun z H' => ∃ b, z = .bl b ∧ Q (.bl (g b)) H') E
theorem op_eqO (T : EqC X.K C f) (F : FnOk X.prog X.w X.K X.mg X.base CX k f fd ps sp) (hr : Room (k + 1) X.A) (hb : Binds X.K fd ps []) (hx : Passes CX X E) : OpR X (compareOp .Eq) (rEqO X.K C sp E id) := by
  intro pins s σ H x y v u Q iv rx ry kq
  obtain ⟨a, dx, fs, t, rfl, ha, ty, hn, q⟩ := kq
  cases rx
  obtain ⟨mo, jv, _⟩ := ins_get iv.hok ha
  obtain ⟨od, jv, _⟩ := jv.look
  obtain ⟨m, hF⟩ := iv.fr
  show wpAny (model X.prog X.w) X.A (richCompare .Eq (.ref a) u) (EP X pins σ Q) X.xe s
  refine PySem.W.cmp_K (op := .Eq) (tb := t) hr.units0 hF iv.ok.mod.kin jv (ty_looks iv ry ty) hn T.eq T.fn ?_
  refine wpAny_mono (run_in F (hr.mono (Nat.le_succ k)) rfl hb hx iv (.cons (rr a) (.cons ry .nil)) q) (fun z s' h => ?_) fun _ _ z => z
  obtain ⟨z', H', I', rz, b, ez, qz⟩ := h
  subst ez
  cases rz
  exact ⟨.bl b, H', I', rfl, qz⟩
theorem op_neO (T : EqC X.K C f) (F : FnOk X.prog X.w X.K X.mg X.base CX k f fd ps sp) (hr : Room (k + 1) X.A) (hb : Binds X.K fd ps []) (hx : Passes CX X E) : OpR X (compareOp .NotEq) (rEqO X.K C sp E not) := by
  intro pins s σ H x y v u Q iv rx ry kq
  obtain ⟨a, dx, fs, t, rfl, ha, ty, hn, q⟩ := kq
  cases rx
  obtain ⟨mo, jv, _⟩ := ins_get iv.hok ha
  obtain ⟨od, jv, _⟩ := jv.look
  show wpAny (model X.prog X.w) X.A (richCompare .NotEq (.ref a) u) (EP X pins σ Q) X.xe s
  refine AWR.ne_K (tb := t) (hu_of hr) iv.kIn jv (ty_looks iv ry ty) hn T.ne T.mo T.eq T.fn ?_
  refine wpAny_mono (run_in F hr.in1 (in1_frames _) hb hx iv (.cons (rr a) (.cons ry .nil)) q) (fun z s' h => ?_) fun _ _ z => z
  obtain ⟨z', H', I', rz, b, ez, qz⟩ := h
  subst ez
  cases rz
  exact ⟨b, rfl, .bl (!b), H', I', rfl, qz⟩
/-- a op b by a's own method, b of the same class or of a built-in one -/
inductive RtOk (K : PySem.W.Frag) (C : Addr) (op : Operator) : Value → Prop where
  | same : RtOk K C op (.ref C)
  | ty {n : String} {r1 r2 : Option Value} (h1 : PySem.W.findIn K (.type n) (PySem.dunder op.info.2) = some r1) (h2 : PySem.W.findIn K (.type n) (PySem.dunderR op.info.2) = some r2) (hs : PySem.W.subIn K (.type n) (.ref C) = some false) : RtOk K C op (.type n)
structure OpC (K : PySem.W.Frag) (C f : Addr) (op : Operator) : Prop where
  self : PySem.W.selfFirst K C = true
  bop : PySem.W.findIn K (.ref C) (PySem.dunder op.info.2) = some (some (.ref f))
  rop : PySem.W.findIn K (.ref C) (PySem.dunderR op.info.2) = some none
  fn : PySem.W.isFn K (.ref f) = true
def rOpO (K : PySem.W.Frag) (C : Addr) (op : Operator) (sp : Sp) (E : XK) : R2 := fun x y H Q => ∃ a dx fs t, x = .ref a ∧ H a = some (.ins C dx fs) ∧ TyX K H y t ∧ RtOk K C op t ∧ sp [x, y] H Q E
theorem op_ownO {op : Operator} (T : OpC X.K C f op) (F : FnOk X.prog X.w X.K X.mg X.base CX k f fd ps sp) (hr : Room k X.A) (hb : Binds X.K fd ps []) (hx : Passes CX X E) : OpR X (binaryOp op) (rOpO X.K C op sp E) := by
  intro pins s σ H x y v u Q iv rx ry kq
  obtain ⟨a, dx, fs, t, rfl, ha, ty, rt, q⟩ := kq
  cases rx
  obtain ⟨mo, jv, _⟩ := ins_get iv.hok ha
  obtain ⟨od, jv, _⟩ := jv.look
  obtain ⟨m, hF⟩ := iv.fr
  have L := ty_looks iv ry ty
  have go : wpAny (model X.prog X.w) X.A (call (.ref f) [.ref a, u]) (PySem.W.CmpBack (EP X pins σ Q)) X.xe s :=
    wpAny_mono (run_in F hr rfl hb hx iv (.cons (rr a) (.cons ry .nil)) q) (fun z s' h => by
      obtain ⟨z', H', I', rz, qz⟩ := h
      exact SlX.cmpback rz ⟨z', H', I', rz, qz⟩) fun _ _ z => z
  cases rt with
  | same => exact PySem.W.binop_K hF iv.ok.mod.kin jv L T.self T.bop T.fn go
  | ty h1 h2 hs => exact AWR.binop_ty iv.kIn jv L T.self T.bop T.rop T.fn h1 h2 hs go
/-- ~a by a's own method -/
def rUnO (C : Addr) (sp : Sp) (E : XK) : V → Hp → VK → Prop := fun x H Q => ∃ a dx fs, x = .ref a ∧ H a = some (.ins C dx fs) ∧ sp [x] H Q E
theorem un_invO (hs : PySem.W.findIn X.K (.ref C) "__invert__" = some (some (.ref f))) (hf : PySem.W.isFn X.K (.ref f) = true) (F : FnOk X.prog X.w X.K X.mg X.base CX k f fd ps sp) (hr : Room k X.A) (hb : Binds X.K fd ps []) (hx : Passes CX X E) : UnR X (unaryOp .Invert) (rUnO C sp E) := by
  intro pins s σ H x v Q iv rx kq
  obtain ⟨a, dx, fs, rfl, ha, q⟩ := kq
  cases rx
  obtain ⟨mo, jv, _⟩ := ins_get iv.hok ha
  obtain ⟨od, jv, _⟩ := jv.look
  obtain ⟨m, hF⟩ := iv.fr
  exact PySem.W.ksp_inv hF iv.ok.mod.kin jv hs hf (run_in F hr rfl hb hx iv (.cons (rr a) .nil) q)
end
end AW

set_option linter.all false
set_option maxRecDepth 100000
set_option maxHeartbeats 4000000
/-! several except clauses, each with a name -/
namespace AW
open PySem PySem.Spec PyProof.Rows L2
abbrev Clause := Value × Nat × (Addr → Value → Option Addr → TS)
/-- behind a suite the clause's name is gone -/
def unD (D : Ends) (i : Nat) : Ends := { nx := fun σ' H' => D.nx (σ'.set i none) H', rt := D.rt, bk := fun σ' H' => D.bk (σ'.set i none) H', ct := fun σ' H' => D.ct (σ'.set i none) H' }
def wManyA (K : PySem.W.Frag) (Wout : WX) (D : Ends) : List Clause → WX
  | [] => Wout
  | (c, i, ts) :: r => fun cls d σ H => ∃ b, PySem.W.exmOne K cls c = some b ∧ (b = true → ∀ a, H a = none → ts a cls d (unD D i) (σ.set i (some (.ref a))) H) ∧ (b = false → wManyA K Wout D r cls d σ H)
inductive HdsOkA (X : Cx) : List ExceptHandler → List Clause → Prop
  | nil : HdsOkA X [] []
  | cons {x n : Str} {c : Value} {i : Nat} {ts : Addr → Value → Option Addr → TS} {b₀ : Stmt} {suite : List Stmt} {np pos' : Pos} {hds : List ExceptHandler} {l : List Clause} (hi : X.N[i]? = some n) (hln : X.env.kindOf n = some .local) (hc : Names X x c)
      (hsu : ∀ (a : Addr) (oe : Obj) (cls : Value) (d : Option Addr) (pn : List (Addr × Obj)), Zc cls d oe → (∃ vs, oe.data = .fields vs) → PSs (X.suite a ((a, oe) :: pn)) (b₀ :: suite) (ts a cls d)) (r : HdsOkA X hds l) :
      HdsOkA X (.ExceptHandler (some (.Name x np)) (some n) (b₀ :: suite) pos' :: hds) ((c, i, ts) :: l)
section
variable {X : Cx} {body : List Stmt} {h₀ : ExceptHandler} {hds : List ExceptHandler} {l : List Clause} {pos : Pos} {tb : WX → TS} {Wout : WX}
theorem ps_try_manyA (hs : X.stack = X.env :: X.outer) (hf : X.env.frame = some X.env.locals) (hN : X.N.Nodup) (tk : Takes X Wout)
    (hb : ∀ (W : WX) (pn : List (Addr × Obj)) (xe : Value → Shared → Prop), Takes (X.tr pn xe) W → PassesOwn (model X.prog X.w) X.A X.env xe → PSs (X.tr pn xe) body (tb W))
    (hh : HdsOkA X (h₀ :: hds) l) : PS X (.Try body (h₀ :: hds) [] [] pos) (fun D σ H => tb (wManyA X.K Wout D l) D σ H) := by
  refine ⟨fun pn0 s σ H D iv h => ?_⟩
  have okI := iv.ok
  have hFrames : X.A.frames = some (X.env :: X.outer) := by rw [okI.frames, hs]
  refine wpAny_Try_except ?_
  refine wpAny_mono ((hb (wManyA X.K Wout D l) (X.pn ++ pn0) (fun e s₁ => wpAny (model X.prog X.w) X.A (noteFrame e X.env) (fun _ s₂ => wpAny (model X.prog X.w) X.A (setFlight e none) (fun _ s₃ =>
    wpAny (model X.prog X.w) X.A (handleBy e X.env (h₀ :: hds)) (SP X pn0 D) X.xe s₃) X.xe s₂) X.xe s₁) (fun u s' xx => ?_) PassesOwn.looking).run [] s σ H D (iv.toTry _) h) (fun f s1 endp => ?_) (fun e s1 he => he)
  · obtain ⟨a, B, sI, pins', σ', H', cls, d, rfl, jw, nb, up, skA, na, os, ag, w⟩ := xx
    have jv : Inv X pn0 σ' H' sI := jw.ofTry okI
    have skB : Sky B (X.env :: X.outer) a (Zc cls d) X.env.locals s'.heap := by rw [← hs]; exact skA
    show wpAny (model X.prog X.w) X.A (noteFrame (.ref a) X.env) _ _ _
    refine Sky.land Zc.steady hFrames hf skB fun hpC flC upC => ?_
    have jC : Inv X pn0 σ' H' { s' with heap := hpC } := jv.landed nb flC.1 (up.trans upC) os ag
    obtain ⟨obC, vlC, heC, hzC, hdC⟩ := flC.there
    have frNot : ∀ {h : Heap} {o : Obj} {vs : Array Value}, h.FunFrames B (X.env :: X.outer) → h.get? a = some o → o.data = .fields vs → a ∉ frs (X.env :: X.outer) := fun {h o vs} ff e dd hmm => by
      obtain ⟨_, o', e', hnf⟩ := ff.mem hmm
      rw [e] at e'; cases e'
      exact hnf _ dd
    have frA := frNot flC.2.2.1 heC hdC
    have neL : a ≠ X.env.locals := fun z => frA (List.mem_filterMap.mpr ⟨X.env, List.mem_cons_self, by rw [hf, z]⟩)
    have neF : a ∉ X.fs := fun hmm => by
      obtain ⟨e, he, q⟩ := List.mem_filterMap.mp hmm
      exact frA (List.mem_filterMap.mpr ⟨e, List.mem_cons_of_mem _ he, q⟩)
    have suC := jC.suite heC hdC na neL neF
    have walk : ∀ {hds' : List ExceptHandler} {l' : List Clause}, HdsOkA X hds' l' → wManyA X.K Wout D l' cls d σ' H' →
        wpAny (model X.prog X.w) X.A (handleBy (.ref a) X.env hds') (SP X pn0 D) X.xe { s' with heap := hpC } := by
      intro hds' l' hk
      induction hk with
      | nil =>
        intro w
        refine wpAny_handleBy_nil ?_
        obtain ⟨k1, k2, k3, oe, vs, T, oT, ts', he, hz, hd, h1, hr⟩ := id flC
        unfold PySem.passOn
        refine wpAny_bind (wpAny_field he hd h1 ?_)
        rw [if_neg (show ¬ ((Value.ref T == Value.none) = true) from by simp)]
        have out : wpAny (model X.prog X.w) X.A (setFlight (.ref a) X.env.frame) (fun _ s4 => wpAny (model X.prog X.w) X.A (throw (.ref a) : Sem Flow) (SP X pn0 D) X.xe s4) X.xe { s' with heap := hpC } := by
          rw [hf]
          refine HandSPX.setFlight_upZ flC fun hpD hh4 upD => wpAny_throw (tk _ _ ?_)
          exact ⟨a, B, sI, pn0, σ', H', cls, d, rfl, jv, nb, (up.trans upC).trans upD, .inr (.inr (by rw [hs]; exact hh4)), na, os, ag, w⟩
        first
          | exact wpAny_bind (wpAny_pure (wpAny_bind out))
          | exact wpAny_bind out
      | @cons x n c i ts b₀ suite np pos' hds2 l2 hi hln hc hsu r ih =>
        intro w
        obtain ⟨b, hb1, hyes, hno⟩ := w
        have hloc : Loc X.env.scope n := .inl hln
        refine wpAny_handleBy_cons (codeAny_handlers_test ?_) (by intro q; cases q)
        have lkT : PySem.W.Looks (model X.prog X.w) hpC (typeOf (.ref a)) cls := fun A Q E s k q => wpAny_typeOf_ref (k _ _ heC) (by rw [hzC.1]; exact q)
        have lkM := PySem.W.exm_one (M := model X.prog X.w) (jC.kIn) lkT hb1
        have test : ∀ {Q : Value → Shared → Prop} {E : Value → Shared → Prop}, Q c { s' with heap := hpC } → wpAny (model X.prog X.w) (X.A.mark (some (.ref a))) (eval (.Name x np) X.env) Q E { s' with heap := hpC } := fun {Q E} q => by
          obtain ⟨hg, hdbg, hmm | ⟨hmm, hv, hnn⟩⟩ := hc
          · exact ld_glob (X := X.suite a ((a, obC) :: (X.pn ++ pn0))) suC hg hmm q hdbg
          · exact ld_blt (X := X.suite a ((a, obC) :: (X.pn ++ pn0))) suC hg hmm hv q hnn hdbg
        refine test (lkM.here ?_)
        cases b with
        | true =>
          refine codeAny_handlers_suite_as ?_
          refine HandSPX.lands_againZ flC fun hpD flD upD => ?_
          have jD : Inv X pn0 σ' H' { s' with heap := hpD } := jv.landed nb flD.1 ((up.trans upC).trans upD) os ag
          obtain ⟨obD, vlD, heD, hzD, hdD⟩ := flD.there
          have suD := jD.suite heD hdD na neL neF
          refine store_ok (X := X.suite a ((a, obD) :: (X.pn ++ pn0))) (v := .ref a) suD hN hi hloc rfl (fun shE suE => ?_) (.inr hln)
          refine wpAny_mono ((hsu a obD cls d (X.pn ++ pn0) hzD ⟨_, hdD⟩).run [] shE _ H' _ suE (hyes rfl a na)) (fun f shF endp => ?_) (fun _ _ z => False.elim z)
          have end_ : ∀ {stF : L2.St} {hpF : Hp} {Q : Shared → Prop}, Inv (X.suite a ((a, obD) :: (X.pn ++ pn0))) [] stF hpF shF → (∀ shG, Inv X pn0 (stF.set i none) hpF shG → Q shG) →
              wpAny (model X.prog X.w) X.A (do bindName X.env n .none; unbindBehindTheSuite X.env n pos') (fun _ shG => Q shG) X.xe shF := fun {stF hpF Q} suF hq => gone_ok (suF.unsuite okI) hN hi hln hq
          cases f with
          | next =>
            obtain ⟨stF, hpF, suF, qF⟩ := endp
            exact end_ suF fun shG jG => ⟨_, _, jG, qF⟩
          | brk =>
            obtain ⟨stF, hpF, suF, qF⟩ := endp
            exact end_ suF fun shG jG => ⟨_, _, jG, qF⟩
          | cont =>
            obtain ⟨stF, hpF, suF, qF⟩ := endp
            exact end_ suF fun shG jG => ⟨_, _, jG, qF⟩
          | ret u =>
            obtain ⟨vF, stF, hpF, suF, rF, qF⟩ := endp
            exact end_ suF fun shG jG => ⟨_, _, _, jG, rF, qF⟩
        | false =>
          show wpAny _ X.A (handleBy (.ref a) X.env hds2) _ _ _
          exact ih (hno rfl)
    exact walk hh w
  · cases f with
    | next =>
      obtain ⟨σ', H', jw, q⟩ := endp
      exact wpAny_execs_nil ⟨σ', H', jw.ofTry okI, q⟩
    | brk =>
      obtain ⟨σ', H', jw, q⟩ := endp
      exact ⟨σ', H', jw.ofTry okI, q⟩
    | cont =>
      obtain ⟨σ', H', jw, q⟩ := endp
      exact ⟨σ', H', jw.ofTry okI, q⟩
    | ret u =>
      obtain ⟨v, σ', H', jw, r, q⟩ := endp
      exact ⟨v, σ', H', jw.ofTry okI, r, q⟩
end
end AW

set_option linter.all false
set_option maxRecDepth 100000
set_option maxHeartbeats 4000000
/-! lambdas that are kept: made in one place, handed on later -/
namespace AW
open PySem PySem.Spec PyProof.Rows L2 LamX
/-- the function object of a lambda at f, its code object at d -/
def LamO (q : Str) (ar : Arguments) (bd : Expr) (sc : Scope) (cl : List (Str × Addr)) (f d : Addr) : HO :=
  .ext fun g => ∃ (u v : Value), g.get? f = some (PySem.W.kla_obj "<lambda>" q ar bd sc cl u d v)
theorem lamO_tbl {q : Str} {ar : Arguments} {bd : Expr} {sc : Scope} {cl : List (Str × Addr)} {f d : Addr} (ps : Array Value) : LamO q ar bd sc cl f d ≠ .tbl ps := fun z => by
  unfold LamO at z
  cases z
section
variable {X : Cx} {pins : List (Addr × Obj)} {σ : L2.St} {H HZ : Hp} {s s1 : Shared}
theorem nofr_new (I : Inv X pins σ H s) {f : Addr} (hf : s.heap.objs.size ≤ f) : f ∉ frs X.stack := fun z => by
  rcases List.mem_cons.mp (I.stkSub _ z) with e | e
  · have q := I.lt
    rw [← e] at q
    exact Nat.lt_irrefl _ (Nat.lt_of_lt_of_le q hf)
  · exact I.nofs hf e
abbrev lamq (X : Cx) : Str := X.env.qual ++ "<lambda>"
/-- the table at P has told the code object d, or tells it now -/
def Grown (P : Addr) (q : Str) (d : Addr) (H H1 : Hp) : Prop := (∃ (ps : Array Value) (pos : Pos), H P = some (.tbl ps) ∧ codeAmong pos ps.toList = some (.ref d) ∧ H1 = H) ∨
  (∃ (ps : Array Value) (pos : Pos), H P = some (.tbl ps) ∧ H d = none ∧ H1 = upd (upd H P (.tbl (ps ++ #[rawInt pos.line, rawInt pos.col, .ref d]))) d (CodeO d q))
theorem tabs_grow {T : List (Addr × Str)} {G : Hp} {P d : Addr} {q : Str} {ps : Array Value} {pos : Pos} (hT : Tabs T G) (hm : (P, q) ∈ T) (hu : ∀ p ∈ T, p.1 = P → p.2 = q) (hP : G P = some (.tbl ps)) (nD : G d = none) :
    Tabs T (upd (upd G P (.tbl (ps ++ #[rawInt pos.line, rawInt pos.col, .ref d]))) d (CodeO d q)) := by
  obtain ⟨ps', hP', ht, ha⟩ := hT _ hm
  rw [hP] at hP'
  cases hP'
  have keep : ∀ c r, G c = some (CodeO c r) → upd (upd G P (.tbl (ps ++ #[rawInt pos.line, rawInt pos.col, .ref d]))) d (CodeO d q) c = some (CodeO c r) := fun c r e => by
    have b2 : c ≠ P := fun z => by subst z; rw [hP] at e; exact codeO_ne ps (Option.some.inj e).symm
    rw [upd_ne (ne_of_none e nD), upd_ne b2]
    exact e
  intro p hp
  by_cases hb : p.1 = P
  · rw [hu p hp hb, hb]
    refine ⟨_, by rw [upd_ne (ne_of_none hP nD), upd_same], ?_, fun p' cv hcv => ?_⟩
    · rw [Array.toList_append]
      exact PySem.TriplesOk_snoc _ _ _ _ ht
    · rw [Array.toList_append] at hcv
      rcases among_app _ ht hcv with z | z
      · obtain ⟨c0, z1, z2⟩ := ha p' cv z
        exact ⟨c0, z1, keep _ _ z2⟩
      · exact ⟨d, z, upd_same⟩
  · obtain ⟨ps2, z1, z2, z3⟩ := hT p hp
    refine ⟨ps2, by rw [upd_ne (ne_of_none z1 nD), upd_ne hb]; exact z1, z2, fun p' cv hcv => ?_⟩
    obtain ⟨c0, w1, w2⟩ := z3 p' cv hcv
    exact ⟨c0, w1, keep _ _ w2⟩
theorem lam_kept {T : List (Addr × Str)} {c P : Addr} {ar : Arguments} {bd : Expr} {sc : Scope} {pos : Pos} {E Q : Value → Shared → Prop} (I : Inv X pins σ H s) (TB : TabB X.base X.mg c P) (hc0 : X.env.code = .ref c)
    (hm : (P, lamq X) ∈ T) (hT : Tabs T H) (hdef : defaultsOf ar X.env = ([], [])) (hfr : ∀ y ∈ sc.names, y.2 = .free → ∃ c, X.env.cells.lookup y.1 = some c)
    (h : ∀ (f d : Addr) (H1 : Hp) (s' : Shared), Inv X pins σ (upd H1 f (LamO (lamq X) ar bd sc (cloFrom X.env.cells sc.names []) f d)) s' → Grown P (lamq X) d H H1 → H1 f = none → Q (.ref f) s') :
    wpAny (model X.prog X.w) X.A (eval (.Lambda ar bd sc pos) X.env) Q E s := by
  obtain ⟨ps, hP, ht, ha⟩ := hT _ hm
  have bP := TB.bm.keeps I.bk
  have hP2 : s.heap.get? P = some { cls := .none, data := .fields ps } := I.hok P _ hP
  -- the object laid behind all others
  have lay : ∀ (H1 : Hp) (g : Heap) (tk : Nat) (d : Addr) (m v : Value), Inv X pins σ H1 { s with heap := g, toks := tk } → Grown P (lamq X) d H H1 →
      Q (.ref g.objs.size) { s with heap := g.push (PySem.W.kla_obj "<lambda>" (lamq X) ar bd sc (cloFrom X.env.cells sc.names []) m d v), toks := tk } := fun H1 g tk d m v J e1 =>
    h g.objs.size d H1 _ (J.laid (t' := tk) (fun b o e => Heap.get?_push_of_some _ e) (Nat.le_refl _)
      ⟨⟨m, v, Heap.get?_push_size _ rfl⟩, ⟨_, Heap.get?_push_size _ rfl⟩, fun g1 g2 ⟨u1, u2, k⟩ st => ⟨u1, u2, st _ k⟩⟩) e1 (J.hok.fresh (Nat.le_refl _))
  refine PySem.W.kla_eval hdef ?_
  cases hcod : codeAmong pos ps.toList with
  | some cv =>
    obtain ⟨d, ed, hd⟩ := ha pos cv hcod
    subst ed
    refine PySem.W.kla_makeFunctionHit (mg := X.mg) (c := c) (P := P) (ps := ps) (closure_ok hfr) I.ok.glob (I.mod.glob.keeps I.bk) hc0 (TB.code.keeps I.bk) hP2 ht hcod bP fun v g tk hx hsz => ?_
    exact lay H g tk d _ v (I.kept fun b o e => hx b o e) (.inl ⟨ps, pos, hP, hcod, rfl⟩)
  | none =>
    refine PySem.W.kla_makeFunction (mg := X.mg) (c := c) (P := P) (ps := ps) (closure_ok hfr) I.ok.glob (I.mod.glob.keeps I.bk) hc0 (TB.code.keeps I.bk) hP2 ht hcod TB.gP bP fun d v g tk hx hge hlt hrec htb => ?_
    obtain ⟨d2, oc, vs, t, e2, k1, k2, k3⟩ := hrec
    cases e2
    have nD : H d = none := I.hok.fresh hge
    have J := inv_table (t' := tk) (more := #[rawInt pos.line, rawInt pos.col, .ref d]) (h' := g) I hP (fun b o hb e => hx b o hb e) htb hge ⟨oc, vs, t, k1, k2, k3⟩
    exact lay _ g tk d _ v J (.inr ⟨ps, pos, hP, nD, rfl⟩)
/-- the reading of a lambda that is kept -/
def tLamV (T : List (Addr × Str)) (P : Addr) (q : Str) (mk : Addr → Addr → HO) : TE := fun _ H Q => Tabs T H ∧ ∀ f d H1, Grown P q d H H1 → H1 f = none → Q (.ref f) (upd H1 f (mk f d))
theorem pe_lamval {T : List (Addr × Str)} {c P : Addr} {ar : Arguments} {bd : Expr} {sc : Scope} {pos : Pos} (TB : TabB X.base X.mg c P) (hc0 : X.env.code = .ref c) (hm : (P, lamq X) ∈ T)
    (L : LamS X.env.scope sc) (hdef : defaultsOf ar X.env = ([], [])) : PE X (.Lambda ar bd sc pos) (tLamV T P (lamq X) (LamO (lamq X) ar bd sc (cloFrom X.env.cells sc.names []))) :=
  ⟨fun pins s σ H Q I ⟨hT, k⟩ => lam_kept I TB hc0 hm hT hdef (L.has I.ok) fun f d H1 s' J g n1 => ⟨.ref f, _, J, rfl, k f d H1 g n1⟩⟩
/-- a kept lambda is called by the def that got it -/
theorem act_kept {CXg : CXT} {Eg : XK} {Ng : List Str} {qg : Str} {sg : Scope} {g f d : Addr} {cdg : Value} {ar : Arguments} {bd : Expr} {sc : Scope} {k i : Nat} {a : Str} {pn : List (Addr × Obj)} {xe : Value → Shared → Prop} {W : WX} {E : XK} {tb : TE} {p1 p2 : Pos}
    (I : Inv X pins σ H s) (L : LamS X.env.scope sc)
    (hbind : ∀ (cl : List (Str × Addr)) (pm cv ctv : Value), bindArgs (PySem.W.kla_fn "<lambda>" (lamq X) ar bd sc cl pm cv ctv) ⟨[], []⟩ = pure [])
    (tk : Takes ((cxOf CXg X.prog X.w X.K X.mg X.base Ng qg sg g cdg X.A X.stack s H Eg).tr pn xe) W) (hW : ∀ cls x σ' H', E cls x H' → W cls x σ' H') (hr : Room (k + 1) (X.A.deeper (envOfC qg sg s.heap.objs.size g cdg)))
    (hbody : ∀ (A : Around) (outer : List Env) (s : Shared) (H : Hp), Room k (A.deeper (lamEnv X sc s.heap.objs.size f d)) → PE (lamCx X A outer s H E sc f d) bd tb)
    (hN : Ng[i]? = some a) (hv : Vis sg a) (hd : (a == ("__debug__" : Str)) = false) (hcd : (a == ("__classdict__" : Str)) = false) :
    PE ((cxOf CXg X.prog X.w X.K X.mg X.base Ng qg sg g cdg X.A X.stack s H Eg).tr pn xe) (.Call (.Name a p1) [] [] p2)
      (fun σZ HZ Q => σZ[i]? = some (some (.ref f)) ∧ HZ f = some (LamO (lamq X) ar bd sc (cloFrom X.env.cells sc.names []) f d) ∧ HZ d = some (CodeO d (lamq X)) ∧ tb σ HZ Q) := by
  refine ⟨fun pz sz σz HZ Q J ⟨g1, g2, g3, g4⟩ => ?_⟩
  have ld := (pe_var (pos := p1) (i := i) hN hv hd hcd).run pz sz σz HZ (fun v H1 => v = .ref f ∧ H1 = HZ) J ⟨.ref f, g1, rfl, rfl⟩
  refine wpAny_Call_Name_kw (thn ld fun u s2 ⟨v, H1, J1, r1, ev, eH⟩ => ?_)
  subst ev
  subst eH
  obtain rfl : u = Value.ref f := r1
  obtain ⟨⟨pm, ctv, obj⟩, _, _⟩ := J1.hok f _ g2
  obtain ⟨⟨oc, vs, t, co1, co2, co3⟩, _, _⟩ := J1.hok d _ g3
  refine PySem.W.callWith_F0 ⟨_, _, _, _, obj⟩ ?_
  have u1 : Un (frs X.stack) [] H H1 s.heap s2.heap := J1.base
  have e1 := J1.env0
  have run : codeAny (model X.prog X.w) (X.A.deeper (envOfC qg sg s.heap.objs.size g cdg)) (.call (.ref f) ⟨[], []⟩) (CR (L2.CX X.prog X.w) (envOfC qg sg s.heap.objs.size g cdg :: X.stack) X.prog X.w H1 s2 Q E) s2 := by
    refine PySem.W.kla_callFunE hr.depth obj rfl L.co L.gen rfl ⟨d, oc, vs, t, rfl, co1, co2, co3⟩ ?_
    rw [hbind]
    refine wpAny_pure (wpAny_newFunctionEnv (fun y hy => (L.own y hy).2) (fun y hy => nomatch hy) (fun h1 q1 q2 => ⟨J1.nolimit.fresh _ q2, ?_⟩) L.kind)
    have kp : ∀ b o, s2.heap.get? b = some o → h1.get? b = some o := fun b o e => by
      refine q2.extBut b o ?_ (Heap.get?_push_of_some _ e)
      exact Nat.ne_of_lt (Heap.lt_size e)
    have st := lam_start2 (A := X.A.deeper (envOfC qg sg s.heap.objs.size g cdg)) (outer := envOfC qg sg s.heap.objs.size g cdg :: X.stack) (E := E) (f := f) (c' := d) (tk := s2.toks + ([] : List (Str × Value)).length) I L e1 hr.hd u1 q1 kp
    refine PySem.W.kla_codeExpr (wpAny_mono ((hbody _ _ s2 H1 (hr.deeper _)).run [] _ _ H1 Q st g4) ?_ fun e s' z => z)
    rintro v s' ⟨w', H', J', rv, z⟩
    exact ⟨w', H', J'.os, J'.bare, J'.base, J'.hok, rv, z⟩
  have ps := passes_call tk hW
  refine wpAny_call (codeAny_mono run fun r s' z => ?_)
  match r, z with
  | .error e, z => exact ps pz σz H1 s2 e s' J1 z
  | .ok (.ret u), z => exact J1.after z
/-- a def that calls the kept lambda it got -/
def GivesK (X : Cx) (Ng : List Str) (x : Str) (sg : Scope) (g : Addr) (cdg : Value) (bg : List Stmt) (a : Str) (q : Str) (mk : Addr → Addr → HO) (TT : (XK → Hp → VK → Prop) → Hp → VK → Prop) : Prop :=
  ∀ (f d : Addr) (s : Shared) (H : Hp) (Q : VK) (tl : XK → Hp → VK → Prop),
    (∀ (W : WX) (pn : List (Addr × Obj)) (xe : Value → Shared → Prop) (E : XK) (p1 p2 : Pos), Takes ((cxOf C8.CX0 X.prog X.w X.K X.mg X.base Ng x sg g cdg X.A X.stack s H C8.E0).tr pn xe) W → (∀ cls d σ' H', E cls d H' → W cls d σ' H') →
      PE ((cxOf C8.CX0 X.prog X.w X.K X.mg X.base Ng x sg g cdg X.A X.stack s H C8.E0).tr pn xe) (.Call (.Name a p1) [] [] p2)
        (fun σZ HZ Q => σZ[0]? = some (some (.ref f)) ∧ HZ f = some (mk f d) ∧ HZ d = some (CodeO d q) ∧ tl E HZ Q)) →
    H f = some (mk f d) → H d = some (CodeO d q) → TT tl H Q →
    ∃ t, PSs (cxOf C8.CX0 X.prog X.w X.K X.mg X.base Ng x sg g cdg X.A X.stack s H C8.E0).nox bg t ∧ t { nx := fun _ H' => Q .non H', rt := Q } (L2.start Ng [.ref f]) H
/-- x(y), y a kept lambda -/
def tCallK (j : Nat) (q : Str) (mk : Addr → Addr → HO) (TT : (XK → Hp → VK → Prop) → Hp → VK → Prop) (t : XK → TE) : TE := fun σ H Q =>
  ∃ f d, σ[j]? = some (some (.ref f)) ∧ H f = some (mk f d) ∧ H d = some (CodeO d q) ∧ TT (fun E H' Q' => t E σ H' Q') H Q
theorem pe_callK {TT : (XK → Hp → VK → Prop) → Hp → VK → Prop} {x a y : Str} {g : Addr} {k j : Nat} {pg : Arguments} {bg : List Stmt} {sg : Scope} {dV kV doc pm cdv ct oc : Value} {an od : Option Addr} {osl : Array (Option Value)} {Ng : List Str}
    {ar : Arguments} {bd : Expr} {sc : Scope} {t : XK → TE} {p py pos : Pos} (hg : Gl X x) (hm : X.mg x = some (.ref g)) (hk : PySem.W.keepIn X.K (.ref g) = true)
    (lk : X.K.lookup g = some ⟨oc, od, .func (PySem.W.fnOf x x pg bg sg dV kV doc pm an cdv ct), osl⟩) (hcg : PySem.W.codeIn X.K cdv x = true) (hb : L2.Binds X.K (PySem.W.fnOf x x pg bg sg dV kV doc pm an cdv ct) [a] []) (Sg : FnScope Ng [a] sg) (hNg : Ng[0]? = some a) (hva : Vis sg a)
    (hG : GivesK X Ng x sg g cdv bg a (lamq X) (LamO (lamq X) ar bd sc (cloFrom X.env.cells sc.names [])) TT)
    (hr : Room (k + 2) X.A) (L : LamS X.env.scope sc)
    (hbind : ∀ (q : Str) (cl : List (Str × Addr)) (pm cv ctv : Value), bindArgs (PySem.W.kla_fn "<lambda>" q ar bd sc cl pm cv ctv) ⟨[], []⟩ = pure [])
    (hy : PE X (.Name y py) (tVar j))
    (hbody : ∀ (A : Around) (outer : List Env) (s : Shared) (H : Hp) (E : XK) (f d : Addr), Room k (A.deeper (lamEnv X sc s.heap.objs.size f d)) → PE (lamCx X A outer s H E sc f d) bd (t E))
    (hdb : (x == ("__debug__" : Str)) = false := by decide) (hd : (a == ("__debug__" : Str)) = false := by decide) (hcd : (a == ("__classdict__" : Str)) = false := by decide) :
    PE X (.Call (.Name x p) [.Name y py] [] pos) (tCallK j (lamq X) (LamO (lamq X) ar bd sc (cloFrom X.env.cells sc.names [])) TT t) := by
  refine ⟨fun pins s σ H Q I ⟨f, d, g1, g2, g3, g4⟩ => ?_⟩
  refine wpAny_Call_Name_kw (ld_glob I hg hm ?_ hdb)
  refine PySem.W.callWith_K (h₀ := X.base) I.ok.mod.kin hk ?_ (by rfl) (by rfl)
  refine Calls.spliced_cons (thn (hy.run pins s σ H (fun v H1 => v = .ref f ∧ H1 = H) I ⟨.ref f, g1, rfl, rfl⟩) fun u s2 ⟨v, H1, J, r1, ev, eH⟩ => ?_)
  subst ev
  subst eH
  obtain rfl : u = Value.ref f := r1
  refine Calls.spliced_nil ⟨J.kIn, ?_⟩
  have run : codeAny (model X.prog X.w) X.A (.call (.ref g) ⟨[.ref f], []⟩) (CR C8.CX0 X.stack X.prog X.w H1 s2 Q C8.E0) s2 := by
    refine run_ofS (N := Ng) (ps := [a]) (us := [.ref f]) (vs := [.ref f]) lk hcg Sg hr J.env0 (hb s2 [.ref f] J.kIn rfl) (.cons rfl .nil) rfl fun hr2 => ?_
    obtain ⟨t2, ht, hq⟩ := hG f d s2 H1 Q (fun E H' Q' => t E σ H' Q') (fun W pn xe E p1 p2 tk hW => act_kept (i := 0) J L (fun cl pm cv ctv => hbind _ cl pm cv ctv) tk hW hr2 (fun A outer s H hr3 => hbody A outer s H E f d hr3) hNg hva hd hcd) g2 g3 g4
    exact ⟨t2, ht.nox, hq⟩
  refine wpAny_call (codeAny_mono run fun r s' z => ?_)
  match r, z with
  | .error e, z => exact (show False from z).elim
  | .ok (.ret u), z => exact J.after z
end
end AW

set_option linter.all false
set_option maxRecDepth 100000
set_option maxHeartbeats 4000000
/-! a list comprehension whose element may look at its maker's own state; kept lambdas called there -/
namespace AW
open PySem PySem.Spec PyProof.Rows L2 LamX
section
variable {X : Cx}
abbrev cEnv (X : Cx) (sc : Scope) (n : Nat) : Env := compEnvC sc (cellsFrom (n + 1) sc.names (cloFrom X.env.cells sc.names [])) n X.env
theorem pe_lcI {elt tg iter : Expr} {sc : Scope} {own : List (Str × Nat)} {pos : Pos} {wi : TI} {g : TG} {te : TE} (calm : X.calm = true) (hN : X.N.Nodup) (hi : PI X tg iter wi) (ok : BlkOk X.N X.env.scope sc own)
    (hg : ∀ (s : Shared) (H : Hp) (C : Addr) (cl : List (Str × Addr)) (fp : List Addr), PG (X.blk s H sc (compEnvC sc cl C X.env) fp) tg g)
    (he : ∀ (pins : List (Addr × Obj)) (σ : L2.St) (s : Shared) (H : Hp) (C : Addr) (cl : List (Str × Addr)) (fp : List Addr), Inv X pins σ H s → (∀ b ∈ fp, FpOk X pins H b) →
      PE (X.blk s H sc (compEnvC sc cl C X.env) fp) elt (fun σ' H' Q' => wipe σ' (own.map (·.2)) = wipe σ (own.map (·.2)) ∧ te σ' H' Q'))
    (hs : ∀ x, foldedSetIterable iter X.env x = pure x := by intro _; rfl) :
    PE X (.ListComp elt [⟨tg, iter, [], 0⟩] sc pos) (tLc wi g tYes te (own.map (·.2))) := by
  refine ⟨fun pins s σ H Q I h => ?_⟩
  have fr : ∀ y ∈ sc.names, y.2 = .free → ∃ c, X.env.cells.lookup y.1 = some c := fun y hy e =>
    (ok.free y hy e).elim (fun k => I.ok.has _ (.inl k)) fun k => I.ok.has _ (.inr k)
  rw [eval_ListComp]
  refine wpAny_comprehension_free rfl hs (closure_ok fr) ok.kind (fun y hy e => by rw [ok.uniq y hy, e]) ?_
  refine thn (hi.run pins s σ H _ I h) fun _ sa ha => thn ha fun _ sb hb => ?_
  obtain ⟨it, fp, tn, J, Hb, eit, Ib, T, stb, fb, q⟩ := hb
  subst eit
  refine wpAny_newObj_type (newEnv_comp ?_) (Nat.zero_le _)
  obtain ⟨D, eD⟩ : ∃ D, sb.heap.objs.size = D := ⟨_, rfl⟩
  rw [eD]
  have nD : Hb D = none := Ib.hok.fresh (Nat.le_of_eq eD)
  obtain ⟨W, ⟨m0, w0⟩, turn⟩ := q D nD
  generalize e3 : ({ sb with heap := sb.heap.push { cls := .type "list", data := .seq ([] : List Value).toArray } } : Shared) = sc3
  have hp3 : sc3.heap = sb.heap.push { cls := .type "list", data := .seq ([] : List Value).toArray } := by rw [← e3]
  have kp3 : ∀ b o, sb.heap.get? b = some o → sc3.heap.get? b = some o := fun b o e => by
    rw [hp3]
    exact Heap.get?_push_of_some _ e
  have Ic : Inv X pins σ (upd Hb D (.lst [])) sc3 := by
    subst e3
    refine Ib.laid (t' := sb.toks) (fun b o e => Heap.get?_push_of_some _ e) (Nat.le_of_eq eD) ⟨Nat.zero_le _, [], 0, .nil, ?_⟩
    subst eD
    exact Heap.get?_push_size _ rfl
  have fc : ∀ b ∈ fp, FpOk X pins (upd Hb D (.lst [])) b ∧ b < sc3.heap.objs.size := fun b hb => by
    obtain ⟨o, eo, _⟩ := T.obj _ _ stb b hb
    have lt := Heap.lt_size eo
    refine ⟨⟨?_, (fb b hb).2⟩, ?_⟩
    · rw [upd_ne (Nat.ne_of_lt (eD ▸ lt))]
      exact (fb b hb).1
    · rw [hp3, Heap.size_push]
      exact Nat.lt_succ_of_lt lt
  have stc : tn 0 sc3.heap := T.keep _ _ _ stb fun b _ o e => kp3 b o e
  have Id := block_start Ic ok hN fc
  have pg := hg sc3 (upd Hb D (.lst [])) sc3.heap.objs.size (cellsFrom (sc3.heap.objs.size + 1) sc.names (cloFrom X.env.cells sc.names [])) fp
  have pe := he pins σ sc3 (upd Hb D (.lst [])) sc3.heap.objs.size (cellsFrom (sc3.heap.objs.size + 1) sc.names (cloFrom X.env.cells sc.names [])) fp Ic (fun b hb => (fc b hb).1)
  have std : tn 0 (pushCells (sc3.heap.push { cls := .type "dict", data := .dict #[] }) sc.names) := T.keep _ _ _ stc fun b _ o e => pushCells_keeps _ _ _ _ (Heap.get?_push_of_some _ e)
  have fin : ∀ (Hz : Hp) (sz : Shared), Inv (X.blk sc3 (upd Hb D (.lst [])) sc (cEnv X sc sc3.heap.objs.size) fp) [] (wipe σ (own.map (·.2))) Hz sz → Q (.ref D) Hz →
      compPost (model X.prog X.w) X.A X.xe none (EP X pins σ Q) (.ref D) sc3.heap.objs.size (.ok .next) sz := fun Hz sz J qz => by
    have back : Inv X pins σ Hz sz := Ic.call' (ch := fp) J.os J.base J.hok J.bare fun b hb => by
      obtain ⟨_, z1, z2, z3, z4, z5⟩ := (fc b hb).1
      exact ⟨z3, z1, z4, z5⟩
    have nC : Hz sc3.heap.objs.size = none := J.free
    obtain ⟨m, hn, _⟩ := J.loc
    obtain ⟨_, z1, z2, z3, z4, z5⟩ := Ic.fpOk (Nat.le_refl _) nC
    exact ⟨m, hn, fun h2 sb2 => ⟨.ref D, Hz, back.turned (t' := sz.toks) (fun b o hb e => (sb2.2 b hb).trans e) nC z1 z3 z4 z5, rfl, qz⟩⟩
  have nfp : ∀ b ∈ fp, (upd Hb D (.lst [])) b = none := fun b hb => (fc b hb).1.1
  obtain ⟨ce, ece⟩ : ∃ z, cEnv X sc sc3.heap.objs.size = z := ⟨_, rfl⟩
  show codeAny _ _ (.compStart (.ListComp elt [⟨tg, iter, [], 0⟩] sc pos) 0 (.ref it) (.ref D) (cEnv X sc sc3.heap.objs.size)) _ _
  rw [show compEnvC sc (cellsFrom (sc3.heap.objs.size + 1) sc.names (cloFrom X.env.cells sc.names [])) sc3.heap.objs.size X.env = ce from ece] at Id pg pe
  rw [ece] at fin ⊢
  obtain ⟨Hc, eHc⟩ : ∃ z, upd Hb D (.lst []) = z := ⟨_, rfl⟩
  rw [eHc] at Ic Id pg pe w0 nfp fc fin
  obtain ⟨sd, esd⟩ : ∃ z : Shared, ({ sc3 with heap := pushCells (sc3.heap.push { cls := .type "dict", data := .dict #[] }) sc.names } : Shared) = z := ⟨_, rfl⟩
  rw [esd] at Id
  have std' : tn 0 sd.heap := by
    rw [← esd]
    exact std
  have own' : ∀ {σ' : L2.St} {H' : Hp} {s' : Shared} {pn : List (Addr × Obj)}, Inv (X.blk sc3 Hc sc ce fp) pn σ' H' s' → pn = [] → (∀ b ∈ fp, H' b = none) → ∀ b ∈ fp, FpOk (X.blk sc3 Hc sc ce fp) pn H' b := fun {σ' H' s' pn} J ep nz b hb => by
    subst ep
    have ex := J.ok.exf b hb
    exact ⟨nz b hb, ex.1, J.ok.exfs b hb, .inl hb, fun x c e => ex.2 x c e, fun p hp => nomatch (show p ∈ ([] : List (Addr × Obj)) from hp)⟩
  have loop : codeAny (model X.prog X.w) X.A (.compLoop (.ListComp elt [⟨tg, iter, [], 0⟩] sc pos) 0 (.ref it) (.ref D) ce) (compPost (model X.prog X.w) X.A X.xe none (EP X pins σ Q) (.ref D) sc3.heap.objs.size) sd := by
    refine compLoop_any (fun n s' => ∃ i H', Inv (X.blk sc3 Hc sc ce fp) [] (wipe σ (own.map (·.2))) H' s' ∧ tn i s'.heap ∧ (∀ b ∈ fp, H' b = none) ∧ W i n H') ?_ m0 ⟨0, Hc, Id, std', nfp, w0⟩
    rintro n s5 ⟨i, H5, J5, t5, n5, w5⟩
    rcases turn i n H5 w5 with ⟨stop, qq⟩ | ⟨go, Nx, hNx, step⟩
    · refine thnF (T.done (X.blk sc3 Hc sc ce fp) rfl rfl rfl calm i [] s5 _ H5 (fun _ _ => False) J5 (own' J5 rfl n5) t5 stop) fun r s6 ⟨er, J6⟩ => ?_
      subst er
      exact fin H5 s6 J6 qq
    · refine thnF (T.item (X.blk sc3 Hc sc ce fp) rfl rfl rfl calm i [] s5 _ H5 (fun _ _ => False) J5 (own' J5 rfl n5) t5 go) fun r s6 ⟨u, er, h6⟩ => ?_
      subst er
      refine thnF h6 fun _ s7 ⟨x, H7, J7, r7, y7, t7, n7⟩ => ?_
      have J7p := J7.pinned (own' J7 rfl n7) (T.obj _ _ t7)
      refine thnF (pg.run _ s7 _ H7 x u _ J7p r7 (step x H7 y7)) fun _ s8 ⟨σ8, H8, J8, hw8, q8⟩ => ?_
      refine thnF ((pts_nil (X := X.blk sc3 Hc sc ce fp)).run _ s8 σ8 H8 _ J8 q8) fun b s9 ⟨H9, J9, q9⟩ => ?_
      have next : ∀ (s' : Shared) (H' : Hp), Inv (X.blk sc3 Hc sc ce fp) ([] ++ pinsAt fp s7.heap) σ8 H' s' → Nx H' → ∃ m, m < n ∧ ∃ i H', Inv (X.blk sc3 Hc sc ce fp) [] (wipe σ (own.map (·.2))) H' s' ∧ tn i s'.heap ∧ (∀ b ∈ fp, H' b = none) ∧ W i m H' := fun s' H' J nx => by
        obtain ⟨m', lt, w'⟩ := hNx H' nx
        have at_ : ∀ b ∈ fp, ∀ o, s7.heap.get? b = some o → s'.heap.get? b = some o ∧ H' b = none := fun b hb o e => by
          have z := J.pin (b, o) (List.mem_append_right _ (List.mem_append_right _ (mem_pinsAt hb e)))
          exact ⟨z.1, z.2.1⟩
        refine ⟨m', lt, i + 1, H', (J.unpinned (pins := [])).weak (by rw [← hw8, wipe_length]) (fun j v e => ?_), T.keep _ _ _ t7 (fun b hb o e => (at_ b hb o e).1), (fun b hb => ?_), w'⟩
        · rw [← hw8] at e
          exact (wipe_some e).1
        · obtain ⟨o, e, _⟩ := T.obj _ _ t7 b hb
          exact (at_ b hb o e).2
      match b, q9 with
      | false, q9 =>
        rw [if_neg Bool.false_ne_true] at q9 ⊢
        exact next s9 H9 J9 q9
      | true, q9 =>
        rw [if_pos rfl] at q9 ⊢
        refine thnF (pe.run _ s9 σ8 H9 _ J9 ⟨hw8, q9⟩) fun z s10 ⟨yv, H10, J10, r10, acc, h10, z10, nx⟩ => ?_
        exact app_ok (X := X.blk sc3 Hc sc ce fp) J10 h10 z10 r10 fun s11 J11 => next s11 _ J11 nx
  rw [esd]
  exact codeAny_compStart_list loop (T.self X.A 0 _ _ _ std' loop)
/-- x(y) in a comprehension's block, y a lambda that the block's maker keeps; the lambda sees the maker's state -/
def tCallB (j : Nat) (vs : List Nat) (q : Str) (mk : Addr → Addr → HO) (TT : (XK → Hp → VK → Prop) → Hp → VK → Prop) (t : XK → TE) : TE := fun σ H Q =>
  ∃ f d, σ[j]? = some (some (.ref f)) ∧ H f = some (mk f d) ∧ H d = some (CodeO d q) ∧ TT (fun E H' Q' => t E (wipe σ vs) H' Q') H Q
theorem pe_callBl {pins0 : List (Addr × Obj)} {σ0 : L2.St} {s0 : Shared} {H0 : Hp} {C : Addr} {cl : List (Str × Addr)} {fp : List Addr} {scb : Scope} {vs : List Nat} (I0 : Inv X pins0 σ0 H0 s0) (hfp : ∀ b ∈ fp, FpOk X pins0 H0 b)
    {TT : (XK → Hp → VK → Prop) → Hp → VK → Prop} {x a y : Str} {g : Addr} {k j : Nat} {pg : Arguments} {bg : List Stmt} {sg : Scope} {dV kV doc pm cdv ct oc : Value} {an od : Option Addr} {osl : Array (Option Value)} {Ng : List Str}
    {ar : Arguments} {bd : Expr} {sc : Scope} {t : XK → TE} {p py pos : Pos} (hg : Gl (X.blk s0 H0 scb (compEnvC scb cl C X.env) fp) x) (hm : X.mg x = some (.ref g)) (hk : PySem.W.keepIn X.K (.ref g) = true)
    (lk : X.K.lookup g = some ⟨oc, od, .func (PySem.W.fnOf x x pg bg sg dV kV doc pm an cdv ct), osl⟩) (hcg : PySem.W.codeIn X.K cdv x = true) (hb : L2.Binds X.K (PySem.W.fnOf x x pg bg sg dV kV doc pm an cdv ct) [a] []) (Sg : FnScope Ng [a] sg) (hNg : Ng[0]? = some a) (hva : Vis sg a)
    (hG : GivesK X Ng x sg g cdv bg a (lamq X) (LamO (lamq X) ar bd sc (cloFrom X.env.cells sc.names [])) TT)
    (hr : Room (k + 2) X.A) (L : LamS X.env.scope sc)
    (hbind : ∀ (q : Str) (cl : List (Str × Addr)) (pm cv ctv : Value), bindArgs (PySem.W.kla_fn "<lambda>" q ar bd sc cl pm cv ctv) ⟨[], []⟩ = pure [])
    (hy : PE (X.blk s0 H0 scb (compEnvC scb cl C X.env) fp) (.Name y py) (tVar j))
    (hbody : ∀ (A : Around) (outer : List Env) (s : Shared) (H : Hp) (E : XK) (f d : Addr), Room k (A.deeper (lamEnv X sc s.heap.objs.size f d)) → PE (lamCx X A outer s H E sc f d) bd (t E))
    (hdb : (x == ("__debug__" : Str)) = false := by decide) (hd : (a == ("__debug__" : Str)) = false := by decide) (hcd : (a == ("__classdict__" : Str)) = false := by decide) :
    PE (X.blk s0 H0 scb (compEnvC scb cl C X.env) fp) (.Call (.Name x p) [.Name y py] [] pos)
      (fun σ' H' Q' => wipe σ' vs = wipe σ0 vs ∧ tCallB j vs (lamq X) (LamO (lamq X) ar bd sc (cloFrom X.env.cells sc.names [])) TT t σ' H' Q') := by
  refine ⟨fun pins s σ H Q I ⟨hw, f, d, g1, g2, g3, g4⟩ => ?_⟩
  refine wpAny_Call_Name_kw (ld_glob I hg hm ?_ hdb)
  refine PySem.W.callWith_K (h₀ := X.base) I.ok.mod.kin hk ?_ (by rfl) (by rfl)
  have ld := hy.run pins s σ H (fun v H1 => v = .ref f ∧ H1 = H) I ⟨.ref f, g1, rfl, rfl⟩
  refine Calls.spliced_cons (thn ld fun u s2 ⟨v, H1, J, r1, ev, eH⟩ => ?_)
  subst ev
  subst eH
  obtain rfl : u = Value.ref f := r1
  refine Calls.spliced_nil ⟨J.kIn, ?_⟩
  have mk0 : Inv X pins0 σ0 H1 s2 := I0.call' (ch := fp) J.os J.base J.hok J.bare fun b hb => by
    obtain ⟨_, z1, z2, z3, z4, z5⟩ := hfp b hb
    exact ⟨z3, z1, z4, z5⟩
  have mk1 : Inv X pins0 (wipe σ vs) H1 s2 := mk0.weak (by rw [hw, wipe_length]) fun i v e => by
    rw [hw] at e
    exact (wipe_some e).1
  have run : codeAny (model X.prog X.w) X.A (.call (.ref g) ⟨[.ref f], []⟩) (CR C8.CX0 X.stack X.prog X.w H1 s2 Q C8.E0) s2 := by
    refine run_ofS (N := Ng) (ps := [a]) (us := [.ref f]) (vs := [.ref f]) lk hcg Sg hr J.env0 (hb s2 [.ref f] J.kIn rfl) (.cons rfl .nil) rfl fun hr2 => ?_
    obtain ⟨t2, ht, hq⟩ := hG f d s2 H1 Q (fun E H' Q' => t E (wipe σ vs) H' Q') (fun W pn xe E p1 p2 tk hW => act_kept (i := 0) mk1 L (fun cl pm cv ctv => hbind _ cl pm cv ctv) tk hW hr2 (fun A outer s H hr3 => hbody A outer s H E f d hr3) hNg hva hd hcd) g2 g3 g4
    exact ⟨t2, ht.nox, hq⟩
  refine wpAny_call (codeAny_mono run fun r s' z => ?_)
  match r, z with
  | .error e, z => exact (show False from z).elim
  | .ok (.ret u), z => exact J.after z
/-- a lambda in a statement, by its parts -/
def lamE : Expr → Expr
  | .List (e :: _) _ => e
  | .Call _ (e :: _) _ _ => e
  | e => e
def lamSt : Stmt → Expr
  | .Assign _ v _ => lamE v
  | .Expr v _ => lamE v
  | .Return (some v) _ => lamE v
  | _ => .Name "" ⟨0, 0, 0, 0⟩
def lamAr : Expr → Arguments → Arguments
  | .Lambda a _ _ _, _ => a
  | _, a => a
def lamBd : Expr → Expr
  | .Lambda _ b _ _ => b
  | e => e
def lamSco : Expr → Scope → Scope
  | .Lambda _ _ c _, _ => c
  | _, c => c
/-- either of two readings -/
theorem pe_orW {e : Expr} {t u : TE} {w : L2.St → Prop} (h1 : PE X e (fun σ H Q => w σ ∧ t σ H Q)) (h2 : PE X e (fun σ H Q => w σ ∧ u σ H Q)) : PE X e (fun σ H Q => w σ ∧ (t σ H Q ∨ u σ H Q)) :=
  ⟨fun pins s σ H Q I h => h.2.elim (fun z => h1.run pins s σ H Q I ⟨h.1, z⟩) fun z => h2.run pins s σ H Q I ⟨h.1, z⟩⟩
end
end AW

set_option linter.all false
set_option maxRecDepth 100000
set_option maxHeartbeats 4000000
/-! a lambda made and handed on at once -/
namespace AW
open PySem PySem.Spec PyProof.Rows L2 LamX
section
variable {X : Cx}
def tLamA (T : List (Addr × Str)) (P : Addr) (q : Str) (mk : Addr → Addr → HO) (TT : (XK → Hp → VK → Prop) → Hp → VK → Prop) (t : XK → TE) : TE := fun σ H Q =>
  Tabs T H ∧ ∀ f d H1, Grown P q d H H1 → H1 f = none → TT (fun E H' Q' => t E σ H' Q') (upd H1 f (mk f d)) Q
theorem pe_lamarg {T : List (Addr × Str)} {TT : (XK → Hp → VK → Prop) → Hp → VK → Prop} {x a : Str} {g c P : Addr} {k : Nat} {pg : Arguments} {bg : List Stmt} {sg : Scope} {dV kV doc pm cdv ct oc : Value} {an od : Option Addr} {osl : Array (Option Value)} {Ng : List Str}
    {ar : Arguments} {bd : Expr} {sc : Scope} {t : XK → TE} {p lpos pos : Pos} (hg : Gl X x) (hm : X.mg x = some (.ref g)) (hk : PySem.W.keepIn X.K (.ref g) = true)
    (lk : X.K.lookup g = some ⟨oc, od, .func (PySem.W.fnOf x x pg bg sg dV kV doc pm an cdv ct), osl⟩) (hcg : PySem.W.codeIn X.K cdv x = true) (hb : L2.Binds X.K (PySem.W.fnOf x x pg bg sg dV kV doc pm an cdv ct) [a] []) (Sg : FnScope Ng [a] sg) (hNg : Ng[0]? = some a) (hva : Vis sg a)
    (hG : GivesK X Ng x sg g cdv bg a (lamq X) (LamO (lamq X) ar bd sc (cloFrom X.env.cells sc.names [])) TT)
    (TB : TabB X.base X.mg c P) (hc0 : X.env.code = .ref c) (hmT : (P, lamq X) ∈ T) (hr : Room (k + 2) X.A) (L : LamS X.env.scope sc) (hdef : defaultsOf ar X.env = ([], []))
    (hbind : ∀ (q : Str) (cl : List (Str × Addr)) (pm cv ctv : Value), bindArgs (PySem.W.kla_fn "<lambda>" q ar bd sc cl pm cv ctv) ⟨[], []⟩ = pure [])
    (hbody : ∀ (A : Around) (outer : List Env) (s : Shared) (H : Hp) (E : XK) (f d : Addr), Room k (A.deeper (lamEnv X sc s.heap.objs.size f d)) → PE (lamCx X A outer s H E sc f d) bd (t E))
    (hdb : (x == ("__debug__" : Str)) = false := by decide) (hd : (a == ("__debug__" : Str)) = false := by decide) (hcd : (a == ("__classdict__" : Str)) = false := by decide) :
    PE X (.Call (.Name x p) [.Lambda ar bd sc lpos] [] pos) (tLamA T P (lamq X) (LamO (lamq X) ar bd sc (cloFrom X.env.cells sc.names [])) TT t) := by
  refine ⟨fun pins s σ H Q I ⟨hT, h⟩ => ?_⟩
  refine wpAny_Call_Name_kw (ld_glob I hg hm ?_ hdb)
  refine PySem.W.callWith_K (h₀ := X.base) I.ok.mod.kin hk ?_ (by rfl) (by rfl)
  refine Calls.spliced_cons (lam_kept I TB hc0 hmT hT hdef (L.has I.ok) fun f d H1 s2 J gr n1 => ?_)
  refine Calls.spliced_nil ⟨J.kIn, ?_⟩
  have nd : d ≠ f := by
    intro z
    subst z
    rcases gr with ⟨ps, pos', e1, e2, e3⟩ | ⟨ps, pos', e1, e2, e3⟩
    · subst e3
      obtain ⟨ps2, k1, _, k3⟩ := hT _ hmT
      rw [e1] at k1
      cases k1
      obtain ⟨c2, k4, k5⟩ := k3 _ _ e2
      cases k4
      rw [k5] at n1
      cases n1
    · subst e3
      rw [upd_same] at n1
      cases n1
  have kd : upd H1 f (LamO (lamq X) ar bd sc (cloFrom X.env.cells sc.names []) f d) d = some (CodeO d (lamq X)) := by
    rw [upd_ne nd]
    rcases gr with ⟨ps, pos', e1, e2, e3⟩ | ⟨ps, pos', e1, e2, e3⟩
    · subst e3
      obtain ⟨ps2, k1, _, k3⟩ := hT _ hmT
      rw [e1] at k1
      cases k1
      obtain ⟨c2, k4, k5⟩ := k3 _ _ e2
      cases k4
      exact k5
    · subst e3
      exact upd_same
  have run : codeAny (model X.prog X.w) X.A (.call (.ref g) ⟨[.ref f], []⟩) (CR C8.CX0 X.stack X.prog X.w (upd H1 f (LamO (lamq X) ar bd sc (cloFrom X.env.cells sc.names []) f d)) s2 Q C8.E0) s2 := by
    refine run_ofS (N := Ng) (ps := [a]) (us := [.ref f]) (vs := [.ref f]) lk hcg Sg hr J.env0 (hb s2 [.ref f] J.kIn rfl) (.cons rfl .nil) rfl fun hr2 => ?_
    obtain ⟨t2, ht, hq⟩ := hG f d s2 _ Q (fun E H' Q' => t E σ H' Q') (fun W pn xe E p1 p2 tk hW => act_kept (i := 0) J L (fun cl pm cv ctv => hbind _ cl pm cv ctv) tk hW hr2 (fun A outer s H hr3 => hbody A outer s H E f d hr3) hNg hva hd hcd) upd_same kd (h f d H1 gr n1)
    exact ⟨t2, ht.nox, hq⟩
  refine wpAny_call (codeAny_mono run fun r s' z => ?_)
  match r, z with
  | .error e, z => exact (show False from z).elim
  | .ok (.ret u), z => exact J.after z
end
/-- a tuple of the text -/
theorem relV_of_abs {u : Value} {x : V} (h : absV u = some x) : RelV x u := by
  cases u <;> simp only [absV, Option.some.injEq, reduceCtorEq] at h <;> subst h <;> first | rfl | exact ⟨_, rfl⟩
theorem vals_of_abs : ∀ {us : List Value} {xs : List V}, us.map absV = xs.map some → Vals xs us
  | [], [], _ => .nil
  | [], _ :: _, h => nomatch h
  | _ :: _, [], h => nomatch h
  | u :: us, x :: xs, h => by
    rw [List.map_cons, List.map_cons, List.cons.injEq] at h
    exact .cons (relV_of_abs h.1) (vals_of_abs h.2)
theorem sqT_const {K : PySem.W.Frag} {H : Hp} {a : Addr} {od : Option Addr} {its : Array Value} {n : Nat} {sl : Array (Option Value)} {xs : List V} (lk : K.lookup a = some ⟨.type "tuple", od, .seq its n, sl⟩) (h : its.toList.map absV = xs.map some) (hl : xs.length ≤ sizeLine) : SqT K H a xs :=
  .inr ⟨_, its, n, lk, rfl, rfl, by
    have e := congrArg List.length h
    rw [List.length_map, List.length_map, Array.length_toList] at e
    omega, vals_of_abs h⟩
end AW

set_option linter.all false
set_option maxRecDepth 100000
set_option maxHeartbeats 4000000
namespace AW
open PySem PySem.Spec PyProof.Rows L2
/-- X(), X an own exception class without own __init__ -/
theorem pmk_own0 {X : Cx} {C : Addr} {bmB : List Value} {B newId initId : String} {x : Str} {p pos : Pos} (F : ExcBaseFacts B newId initId bmB) (q : PySem.W.excIn X.K C bmB newId = true) (gC : X.mg x = some (.ref C))
    (kC : PySem.W.keepIn X.K (.ref C) = true) (r : Raises X (.ref C)) (hg : Gl X x) (hdb : (x == ("__debug__" : Str)) = false := by decide) : PMk X (.Call (.Name x p) [] [] pos) (fun _ H Q => Q (.ref C) none H) := by
  intro pins s σ H Q I h
  refine wpAny_Call_Name_kw (ld_glob I hg gC ?_ hdb)
  refine PySem.W.callWith_K0 I.kIn kC ?_
  show wpAny _ _ (call (.ref C) []) _ _ _
  obtain ⟨bm, N, nm, qn, bs, hdct, sn, sub, ab, col, dd, k0, k1, k2, k3, k5, mN, hC, hN, hni, T⟩ := exc_obj I.kIn q
  refine wpAny_call_exc_subT F T hC hN hni (fun h' e hm => ?_) (Nat.zero_le _)
  exact mk_of I hm r h (I.hok.gone hm.new)
/-! gcd of three numbers -/
theorem args3_gcd (a b c : Value) : argsOk "math.gcd" ⟨[a, b, c], []⟩ := by unfold argsOk; kernel_rfl
theorem run3_gcd (a b c : Int) (t u v : Tok) : Gives (Builtin.«math.gcd» ⟨[.int a t, .int b u, .int c v], []⟩) (.int (((((Nat.gcd 0 a.natAbs).gcd b.natAbs).gcd c.natAbs : Nat) : Int))) :=
  .of_wp fun M A E s Q h => by
    obtain ⟨hp, g, d, tk, os⟩ := s
    wp_walk
    exact ⟨_, rfl, h⟩
def rGcd3 : List V → Hp → VK → Prop := fun vs H Q => ∃ a b c : Int, vs = [.int a, .int b, .int c] ∧ Q (.int (((a.natAbs.gcd b.natAbs).gcd c.natAbs : Nat) : Int)) H
theorem cr_gcd3 {X : Cx} : CallR X (.builtin "math.gcd") rGcd3 := by
  intro pins s σ H vs us Q I r h
  obtain ⟨a, b, c, rfl, q⟩ := h
  match us, r with
  | [_, _, _], .cons h1 (.cons h2 (.cons h3 .nil)) =>
    obtain ⟨t, rfl⟩ := h1
    obtain ⟨u, rfl⟩ := h2
    obtain ⟨v, rfl⟩ := h3
    have g := run3_gcd a b c t u v
    rw [Nat.gcd_zero_left] at g
    exact PySem.call_function_meets PySem.W.MGF.kind_gcd PySem.W.MGF.plain_gcd PySem.W.MGF.entry_gcd (args3_gcd _ _ _) g.meets ⟨.int _, H, I.tok _, ⟨_, rfl⟩, q⟩
end AW

set_option linter.all false
set_option maxRecDepth 100000
set_option maxHeartbeats 4000000
/-! an instance that is called: its class has its own __call__ -/
namespace AW
open PySem PySem.Spec PyProof.Rows L2
section
variable {M : Model} {A : Around} {E : Value → Shared → Prop} {s : Shared} {pos : Pos} {x C : Addr} {Q : Value → Shared → Prop}
theorem callW_obj {args : List (Bool × Sem Value)} (hpl : (args.any (·.1) || ([] : List (Option Str × Sem Value)).any (·.1.isNone)) = false) 
    (h : wpAny M A (evalArgs (.ref x) true args []) (fun a s1 => (∃ ox od, ox.data = .plain ∧ PySem.W.InstAt s1.heap x ox C od) ∧ wpAny M A (call (.ref x) ([] ++ a.pos) a.kw) Q E s1) E s) : wpAny M A (callWith pos (.ref x) [] args []) Q E s := by
  unfold callWith
  refine wpAny_bind (wpAny_holding (wpAny_mono h (fun a s1 z => ?_) fun _ _ y => y))
  obtain ⟨⟨ox, od, hd, J⟩, z⟩ := z
  refine wpAny_bind (wpAny_standAt ?_)
  simp only [hpl]
  refine wpAny_bind ((PySem.W.kco_keeper (M := M) J hd).here (wpAny_bind ?_))
  refine wpAny_mono (wpAny_operateT z) (fun r s2 hr => ?_) fun _ _ y => y
  exact wpAny_bind (wpAny_mono (wpAny_holding (wpAny_point (wpAny_pure hr))) (fun _ _ y => y) fun _ _ y => y)
end
/-- what a class must have for its instances to be called -/
structure CallC (K : PySem.W.Frag) (C f : Addr) : Prop where
  at_ : PySem.W.findIn K (.ref C) "__call__" = some (some (.ref f))
  fn : PySem.W.isFn K (.ref f) = true
  fni : PySem.W.fnIn K f = true
def tCallO (C : Addr) (sp : Sp) (E : XK) (tf : TE) (t : TA) : TE := fun σ H Q => tf σ H fun v H1 => ∃ a, v = .ref a ∧ t σ H1 fun vs H2 => (∃ dx fs, H2 a = some (.ins C dx fs)) ∧ sp (.ref a :: vs) H2 Q E
theorem pe_callObj {X : Cx} {fe e : Expr} {es : List Expr} {pos : Pos} {tf : TE} {t : TA} {CX : CXT} {C f : Addr} {k : Nat} {fd : FuncData} {ps : List Str} {sp : Sp} {E : XK} (hf : PE X fe tf) (c : CallC X.K C f) (F : FnOk X.prog X.w X.K X.mg X.base CX k f fd ps sp) (hr : Room k X.A)
    (hb : L2.Binds X.K fd ps []) (hx : Passes CX X E) (ha : PA X (e :: es) t)
    (ev : eval (.Call fe (e :: es) [] pos) X.env = (do callWith pos (← eval fe X.env) [] (backTo pos (starEach (e :: es) X.env)) (backToKw pos (keywordEach [] X.env))) := by rfl)
    (he : starEach (e :: es) X.env = (false, eval e X.env) :: starEach es X.env := by rfl) (hpl : (backTo pos (starEach es X.env)).any (·.1) = false := by rfl) :
    PE X (.Call fe (e :: es) [] pos) (tCallO C sp E tf t) := by
  refine ⟨fun pins s σ H Q I h => ?_⟩
  rw [ev]
  refine wpAny_bind (thn (hf.run pins s σ H _ I h) fun u s1 ⟨v, H1, I1, rv, a, eva, q⟩ => ?_)
  subst eva
  obtain rfl : u = Value.ref a := rv
  rw [he]
  refine callW_obj (C := C) (by show ((false || (backTo pos (starEach es X.env)).any (·.1)) || false) = false; rw [hpl]; rfl) (PySem.Calls.evalArgs_plain ?_)
  have hargs := ha.run pos pins s1 σ H1 _ I1 q
  rw [he] at hargs
  refine thn hargs fun us s2 ⟨vs, H2, I2, r, ⟨dx, fs, ea⟩, q2⟩ => ?_
  obtain ⟨mA, O, _⟩ := ins_get I2.hok ea
  obtain ⟨od, J, _⟩ := O.look
  refine ⟨⟨_, _, rfl, J⟩, ?_⟩
  have rv : Vals (.ref a :: vs) (.ref a :: us) := .cons rfl r
  have hl : (Value.ref a :: us).length = ps.length := by rw [← rv.length]; exact F.len _ _ _ _ q2
  have hbs := hb s2 (.ref a :: us) I2.kIn (by rw [List.append_nil]; exact hl)
  rw [List.append_nil] at hbs
  have run := F.run X.A X.stack s2 H2 ⟨.ref a :: us, []⟩ (.ref a :: us) (.ref a :: vs) Q E hr I2.env0 hbs rv q2
  refine wpAny_call (codeAny_mono (PySem.W.kco_code I2.kIn J rfl c.at_ c.fn c.fni run) fun rr s' z => ?_)
  match rr, z with
  | .error e, z => exact hx pins σ H2 s2 e s' I2 z
  | .ok (.ret u), z => exact I2.after z
end AW

set_option linter.all false
set_option maxRecDepth 100000
set_option maxHeartbeats 4000000
namespace AW
open PySem PySem.Spec PyProof.Rows L2
section
variable {X : Cx}
/-- x in a tuple of data -/
def rInT (K : PySem.W.Frag) : R2 := fun x y H Q => ∃ d ds, Dp K H x d ∧ Dp K H y (.tuple ds) ∧ SeqAt.shaped d = true ∧ SeqAt.shaped (.tuple ds) = true ∧ Q (.bl (ds.any fun z => PyData.eqv z d)) H
theorem op_inT (hu : X.A.units + 65 < cLine) : OpR X (compareOp .In) (rInT X.K) := by
  intro pins s σ H x y v u Q I rx ry h
  obtain ⟨d, ds, hd, he, sd, se, q⟩ := h
  obtain ⟨as, r1⟩ := Dp.reads I d x v hd rx
  obtain ⟨bs, r2⟩ := Dp.reads I (.tuple ds) y u he ry
  exact SeqAt.in_tuple_reads r2 r1 (SeqAt.canLay_of_shaped se) (SeqAt.canLay_of_shaped sd) (room_in_shaped sd hu) ⟨.bl _, H, I, rfl, q⟩
end
end AW

set_option linter.all false
set_option maxRecDepth 100000
set_option maxHeartbeats 1000000
/-! min(l) of a list of tuples of whole numbers -/
namespace RM
open PySem PySem.Spec PyProof.Rows L2 PySem.W
theorem lt_lex : ∀ a b : List Int, listLt a b = HT.lexLt a b
  | [], [] => rfl
  | [], _ :: _ => rfl
  | _ :: _, [] => rfl
  | x :: xs, y :: ys => by
    rw [HT.lexLt_cons]
    show (if x = y then listLt xs ys else decide (x < y)) = _
    rw [lt_lex xs ys]
theorem lex_asym : ∀ a b : List Int, HT.lexLt a b = true → HT.lexLt b a = false
  | [], [], h => by cases h
  | [], _ :: _, _ => rfl
  | _ :: _, [], h => by cases h
  | x :: xs, y :: ys, h => by
    rw [HT.lexLt_cons] at h ⊢
    by_cases e : x = y
    · subst e
      rw [if_pos rfl] at h ⊢
      exact lex_asym xs ys h
    · rw [if_neg e] at h
      rw [if_neg (fun z => e z.symm)]
      have := of_decide_eq_true h
      exact decide_eq_false (by omega)
theorem lex_self : ∀ a : List Int, HT.lexLt a a = false
  | [] => rfl
  | x :: xs => by rw [HT.lexLt_cons, if_pos rfl]; exact lex_self xs
/-- not less is handed on -/
theorem lex_nl : ∀ a b c : List Int, HT.lexLt a b = false → HT.lexLt b c = false → HT.lexLt a c = false
  | [], [], c, _, h => h
  | [], _ :: _, _, h, _ => by cases h
  | _ :: _, _, [], _, _ => rfl
  | _ :: _, [], _ :: _, _, h => by cases h
  | x :: xs, y :: ys, z :: zs, h1, h2 => by
    rw [HT.lexLt_cons] at h1 h2 ⊢
    by_cases e1 : x = y
    · subst e1
      rw [if_pos rfl] at h1
      by_cases e2 : x = z
      · subst e2
        rw [if_pos rfl] at h2 ⊢
        exact lex_nl xs ys zs h1 h2
      · rw [if_neg e2] at h2 ⊢
        exact h2
    · rw [if_neg e1] at h1
      have h1 := of_decide_eq_false h1
      by_cases e2 : y = z
      · subst e2
        rw [if_neg e1]
        exact decide_eq_false h1
      · rw [if_neg e2] at h2
        have h2 := of_decide_eq_false h2
        have e3 : x ≠ z := by omega
        rw [if_neg e3]
        exact decide_eq_false (by omega)
theorem fold_min (ns : List (Tup Int)) : ∀ x : Tup Int, (minOf x ns ∈ x :: ns) ∧ ∀ y ∈ x :: ns, HT.lexLt y.items (minOf x ns).items = false := by
  induction ns with
  | nil =>
    intro x
    refine ⟨by simp [minOf], fun y hy => ?_⟩
    simp at hy
    subst hy
    exact lex_self _
  | cons n ns ih =>
    intro x
    have e : minOf x (n :: ns) = minOf (if DatumOrd.lt n x = true then n else x) ns := rfl
    have el : DatumOrd.lt n x = HT.lexLt n.items x.items := lt_lex _ _
    rw [e, el]
    by_cases h : HT.lexLt n.items x.items = true
    · rw [if_pos h]
      obtain ⟨h1, h2⟩ := ih n
      refine ⟨List.mem_cons_of_mem _ h1, fun y hy => ?_⟩
      rcases List.mem_cons.mp hy with rfl | hy
      · exact lex_nl _ _ _ (lex_asym _ _ h) (h2 n (by simp))
      · exact h2 y hy
    · have h : HT.lexLt n.items x.items = false := by simpa using h
      rw [h]
      rw [if_neg (by decide)]
      obtain ⟨h1, h2⟩ := ih x
      refine ⟨?_, fun y hy => ?_⟩
      · rcases List.mem_cons.mp h1 with z | z
        · rw [z]; simp
        · exact List.mem_cons_of_mem _ (List.mem_cons_of_mem _ z)
      · rcases List.mem_cons.mp hy with rfl | hy
        · exact h2 y (by simp)
        · rcases List.mem_cons.mp hy with rfl | hy
          · exact lex_nl _ _ _ h (h2 x (by simp))
          · exact h2 y (List.mem_cons_of_mem _ hy)
def rMinT (K : PySem.W.Frag) : List V → Hp → VK → Prop := fun vs H Q => ∃ (a : Addr) (us : List V) (nss : List (List Int)), vs = [V.ref a] ∧ SqL K H a us ∧ us.length = nss.length ∧ (∀ (j : Nat) u ns, us[j]? = some u → nss[j]? = some ns → ∃ t, u = .ref t ∧ SqT K H t (ns.map V.int)) ∧ 0 < nss.length ∧
  ∀ (j : Nat) u ns, us[j]? = some u → nss[j]? = some ns → (∀ ms ∈ nss, HT.lexLt ms ns = false) → Q u H
section
variable {X : Cx}
theorem hold_all {pins : List (Addr × Obj)} {s : Shared} {σ : L2.St} {H : Hp} (I : Inv X pins σ H s) : ∀ {us : List V} {its : List Value} {nss : List (List Int)}, Vals us its → us.length = nss.length → (∀ (j : Nat) u ns, us[j]? = some u → nss[j]? = some ns → ∃ t, u = .ref t ∧ SqT X.K H t (ns.map V.int)) → HoldAll s.heap its (nss.map Tup.mk)
  | _, _, [], .nil, _, _ => HoldAll.nil
  | _, _, _ :: _, .nil, h, _ => by simp at h
  | _, _, [], .cons _ _, h, _ => by simp at h
  | _, _, ns :: nss, .cons (a := u) (b := v) r rr, hl, ht => by
    obtain ⟨t, e, q⟩ := ht 0 u ns rfl rfl
    subst e
    cases r
    obtain ⟨its, r1, p1, _⟩ := I.tuple q
    refine HoldAll.cons ?_ (hold_all I rr (by simpa using hl) fun j u n h1 h2 => ht (j + 1) u n h1 h2)
    exact holds_tup (show s.heap.IsTuple t its.toArray from p1) (HoldAll.of_ints (by simpa using r1.ints))
theorem cr_minT (hc : X.calm = true) (hu : X.A.units + 65 < cLine) : CallR X (.builtin "min") (rMinT X.K) := by
  intro pins s σ H vs us' Q I r h
  obtain ⟨a, us, nss, rfl, hs, hl, ht, h0, q⟩ := h
  obtain ⟨its, rv, hli, _⟩ := I.list hs
  rw [Vals.ref1 r]
  have HA := hold_all I rv hl ht
  cases nss with
  | nil => simp at h0
  | cons n0 nss =>
    refine min_list_datum (x := Tup.mk n0) (xs := nss.map Tup.mk) (I.ok.hd hc) hli.isList HA (show X.A.units + 1 + 1 < cLine by omega) fun i v h' tk hi hv hk => ?_
    have hi : its[i]? = some v := by simpa using hi
    have hil : i < us.length := by rw [rv.length]; exact (List.getElem?_eq_some_iff.mp hi).1
    have hui : us[i]? = some us[i] := List.getElem?_eq_getElem hil
    have hni : (n0 :: nss)[i]? = some ((n0 :: nss)[i]'(by rw [← hl]; exact hil)) := List.getElem?_eq_getElem (by rw [← hl]; exact hil)
    obtain ⟨v2, hv2, rel⟩ := rv.get hui
    rw [hi] at hv2
    cases hv2
    generalize us[i] = u at hui rel
    generalize (n0 :: nss)[i]'(by rw [← hl]; exact hil) = ns at hni
    obtain ⟨t, e, qt⟩ := ht i u ns hui hni
    subst e
    cases rel
    obtain ⟨its2, r2, p2, _⟩ := I.tuple qt
    obtain ⟨l, ws, e, hT, hA⟩ := tup_of_holds hv
    cases e
    have hT2 : h'.IsTuple t its2.toArray := IsTup.keeps p2 hk
    have ew : ws = its2.toArray := by
      obtain ⟨o, g1, _, n, d1⟩ := hT
      obtain ⟨o', g2, _, n', d2⟩ := hT2
      rw [g1] at g2
      cases g2
      rw [d1] at d2
      injection d2
    subst ew
    have e1 : IntsAre its2 (minOf (Tup.mk n0) (nss.map Tup.mk)).items := by simpa using hA.toInts
    have e2 : ns = (minOf (Tup.mk n0) (nss.map Tup.mk)).items := by rw [← e1.numsOf, ← r2.ints.numsOf]
    refine ⟨.ref t, H, I.kept hk, rfl, q i _ ns hui hni fun ms hm => ?_⟩
    rw [e2]
    exact (fold_min (nss.map Tup.mk) (Tup.mk n0)).2 (Tup.mk ms) (by
      rcases List.mem_cons.mp hm with rfl | hm
      · simp
      · exact List.mem_cons_of_mem _ (List.mem_map.mpr ⟨ms, hm, rfl⟩))
end
end RM

set_option linter.all false
set_option maxRecDepth 100000
set_option maxHeartbeats 4000000
/-! != of two tuples whose items are equal, by own __eq__ too: False -/
namespace RN
open PySem PySem.SeqAt GQ
open AutoSeq1 (wpAny_loadPart')
open MeetsSeq MeetsSeq2 MeetsSeq3 SeqRoads2
section
variable {prog : Program} {w : World} {A : Around} {R : Result → Shared → Prop}
theorem tupNe (p q : Addr) (as bs : Array Value) (m k : Nat) (d1 d2 : Option Addr) (o1 o2 : Array (Option Value)) (len : as.size = bs.size) (J : Nat → Shared → Prop)
    (step : ∀ i (l1 : i < as.size) (l2 : i < bs.size) s, J i s → wpAny (model prog w) A.in1 (eqBool as[i] bs[i]) (fun b s2 => b = true ∧ J (i + 1) s2) (fun e s2 => R (.error e) s2) s)
    (stop : ∀ s, J as.size s → R (.ok (.ret (.bool false))) s) {s : Shared} (hp : s.heap.get? p = some { cls := .type "tuple", dict := d1, data := .seq as m, slots := o1 }) (hq : s.heap.get? q = some { cls := .type "tuple", dict := d2, data := .seq bs k, slots := o2 }) (h : J 0 s) :
    wpAny (model prog w) A.in1 (Builtin.«tuple.__ne__» ⟨[.ref p, .ref q], []⟩) (FinOf prog w A R) (fun e s2 => R (.error e) s2) s := by
  have sub := AutoSeq1.sub_tuple_tuple
  have lz : (as.toList.zip bs.toList).length = as.size := by simp [len]
  have start := h
  obtain ⟨g0, g1, g2, g3, g4⟩ := s
  wp_walk using wpAny_loadPart' hp, wpAny_loadPart' hq, wpAny_forIn_list _ (fun rs b s2 => b.1 = none ∧ ∃ i, rs = (as.toList.zip bs.toList).drop i ∧ i ≤ as.size ∧ J i s2) _
  case turn =>
    rintro ⟨u, v⟩ rs b s2 ⟨eb, i, er, li, hJ⟩
    have lt : i < (as.toList.zip bs.toList).length := by
      apply Classical.byContradiction
      intro n
      rw [List.drop_of_length_le (Nat.le_of_not_lt n)] at er
      cases er
    have l1 : i < as.size := lz ▸ lt
    have l2 : i < bs.size := len ▸ l1
    rw [List.drop_eq_getElem_cons lt] at er
    injection er with euv erest
    have eu : u = as[i] := by simpa using congrArg Prod.fst euv
    have ev : v = bs[i] := by simpa using congrArg Prod.snd euv
    subst eu ev
    refine wpAny_bind (wpAny_mono (step i l1 l2 s2 hJ) (fun b s3 t => ?_) fun _ _ x => x)
    obtain ⟨rfl, t⟩ := t
    wp_walk
    exact ⟨rfl, i + 1, erest, l1, t⟩
  case fin =>
    rintro ⟨c1, c2⟩ s2 ⟨eb, i, er, li, hJ⟩
    simp only at eb
    subst eb
    have ge : as.size ≤ i := by
      apply Classical.byContradiction
      intro n
      have lt : i < (as.toList.zip bs.toList).length := by omega
      rw [List.drop_eq_getElem_cons lt] at er
      cases er
    have ei : i = as.size := by omega
    have done : R (.ok (.ret (.bool false))) s2 := stop s2 (ei ▸ hJ)
    wp_walk
    simpa [Builtin.Tuple.tupleCompareSizes, len] using done
  case h =>
    exact ⟨rfl, 0, rfl, Nat.zero_le _, start⟩
end
section
variable {prog : Program} {w : World} {A : Around} {E : Value → Shared → Prop} {s : Shared}
theorem rcNe {p q : Addr} {as bs : Array Value} {Q : Value → Shared → Prop} (len : as.size = bs.size) (hu : A.units < cLine) (J : Nat → Shared → Prop)
    (hp : s.heap.IsTuple p as) (hq : s.heap.IsTuple q bs)
    (step : ∀ i (l1 : i < as.size) (l2 : i < bs.size) s, J i s → wpAny (model prog w) A.in1 (eqBool as[i] bs[i]) (fun b s2 => b = true ∧ J (i + 1) s2) E s)
    (stop : ∀ s, J as.size s → Q (.bool false) s) (h : J 0 s) : wpAny (model prog w) A (richCompare .NotEq (.ref p) (.ref q)) Q E s := by
  obtain ⟨⟨c1, d1, t1, o1⟩, e1, k1, n1, z1⟩ := id hp
  obtain ⟨⟨c2, d2, t2, o2⟩, e2, k2, n2, z2⟩ := id hq
  simp only at k1 z1 k2 z2
  subst k1 z1 k2 z2
  refine wpAny_richCompare_same_room (op := .NotEq) ⟨_, e1, rfl⟩ ⟨_, e2, rfl⟩ F.slot_tuple_ne (call_here F.slot_tuple_ne ⟨_, e1, rfl⟩ F.entry_tuple_ne (F.args_tuple_ne_2 _ _) ?_) hu
  exact tupNe (R := wants (fun v s2 => v ≠ .notImplemented ∧ Q v s2) E) p q as bs n1 n2 d1 d2 o1 o2 len J step (fun s2 t => ⟨(fun x => nomatch x), stop s2 t⟩) e1 e2 h
end
end RN
namespace AW
open PySem PySem.Spec PyProof.Rows L2
section
variable {X : Cx} {n : Nat} {D : Eqv}
def RcN (X : Cx) (n : Nat) (D : Eqv) : Prop :=
  ∀ (A : Around) (pins : List (Addr × Obj)) (s : Shared) (σ : L2.St) (H : Hp) (x y : V) (u v : Value), L2.Sub X n A → Inv X pins σ H s → RelV x u → RelV y v → D x y H →
    wpAny (model X.prog X.w) A (richCompare .NotEq u v) (fun r s2 => r = .bool false ∧ ∃ H', Inv X pins σ H' s2 ∧ L2.Ext H H') X.xe s
theorem rcN_tup (hD : Mon D) (h : EqG X n D) : RcN X (n + 1) (DTup X.K D) := by
  intro A pins s σ H x y u v sb I rx ry d
  obtain ⟨a, b, xs, ys, rfl, rfl, ha, hb, p⟩ := d
  cases rx
  cases ry
  obtain ⟨its, r, e, z⟩ := I.tuple ha
  obtain ⟨its2, r2, e2, z2⟩ := I.tuple hb
  have len : its.toArray.size = its2.toArray.size := by rw [List.size_toArray, List.size_toArray, ← r.length, ← r2.length]; exact p.1
  exact RN.rcNe len sb.room.units0 (fun _ s2 => LoopI X pins σ H s2) e e2 (fun i l1 l2 s2 t => turnG hD h sb p r r2 i l1 l2 s2 t) (fun s2 t => ⟨rfl, t⟩) ⟨H, I, L2.Ext.rfl'⟩
/-- x != y, which is False -/
def rNeG (D : Eqv) : R2 := fun x y H Q => D x y H ∧ ∀ H', L2.Ext H H' → Q (.bl false) H'
theorem op_neG (h : RcN X n D) (hr : Room n X.A) : OpR X (compareOp .NotEq) (rNeG D) := by
  intro pins s σ H x y v u Q I rx ry hq
  obtain ⟨d, q⟩ := hq
  show wpAny (model X.prog X.w) X.A (richCompare .NotEq v u) (EP X pins σ Q) X.xe s
  refine wpAny_mono (h X.A pins s σ H x y v u ⟨hr, rfl⟩ I rx ry d) (fun r s2 z => ?_) fun _ _ x => x
  obtain ⟨rfl, H', I2, e⟩ := z
  exact ⟨.bl false, H', I2, rfl, q H' e⟩
end
end AW

set_option linter.all false
set_option maxRecDepth 100000
set_option maxHeartbeats 4000000
/-! < of data that are alike; iteration over one of two kinds -/
namespace AW
open PySem PySem.Spec PyProof.Rows L2
section
variable {X : Cx}
def rLtDD (K : PySem.W.Frag) : R2 := fun x y H Q => ∃ d e, Dp K H x d ∧ Dp K H y e ∧ PySem.W.alike d e = true ∧ d ≠ .none ∧ min d.depth e.depth ≤ 60 ∧ Q (.bl (PySem.W.dataLt d e)) H
theorem op_ltDD (hu : X.A.units + 64 < cLine) : OpR X (compareOp .Lt) (rLtDD X.K) := by
  intro pins s σ H x y v u Q I rx ry h
  obtain ⟨d, e, hd, he, al, nn, dp, q⟩ := h
  obtain ⟨as, r1⟩ := Dp.reads I d x v hd rx
  obtain ⟨bs, r2⟩ := Dp.reads I e y u he ry
  show wpAny (model X.prog X.w) X.A (richCompare .Lt v u) (EP X pins σ Q) X.xe s
  exact PySem.W.rcLt_alike d e X.A s v u as bs r1 r2 al nn (by omega) X.prog X.w X.xe _ ⟨.bl _, H, I, rfl, q⟩
/-- x not in a tuple of data -/
def rNinT (K : PySem.W.Frag) : R2 := fun x y H Q => ∃ d ds, Dp K H x d ∧ Dp K H y (.tuple ds) ∧ SeqAt.shaped d = true ∧ SeqAt.shaped (.tuple ds) = true ∧ Q (.bl (!ds.any fun z => PyData.eqv z d)) H
theorem op_ninT (hu : X.A.units + 65 < cLine) : OpR X (compareOp .NotIn) (rNinT X.K) := by
  intro pins s σ H x y v u Q I rx ry h
  obtain ⟨d, ds, hd, he, sd, se, q⟩ := h
  obtain ⟨as, r1⟩ := Dp.reads I d x v hd rx
  obtain ⟨bs, r2⟩ := Dp.reads I (.tuple ds) y u he ry
  exact SeqAt.notIn_tuple_reads r2 r1 (SeqAt.canLay_of_shaped se) (SeqAt.canLay_of_shaped sd) (room_in_shaped sd hu) ⟨.bl _, H, I, rfl, q⟩
def iOr (t u : TI) : TI := fun σ H R => t σ H R ∨ u σ H R
theorem pi_or {tg l : Expr} {t u : TI} (h1 : PI X tg l t) (h2 : PI X tg l u) : PI X tg l (iOr t u) := ⟨fun pins s σ H R I h => h.elim (h1.run pins s σ H R I) (h2.run pins s σ H R I)⟩
end
end AW

set_option linter.all false
set_option maxRecDepth 100000
set_option maxHeartbeats 4000000
/-! a list against the empty list, whatever it holds; x not in a list of data -/
namespace RN
open PySem PySem.SeqAt GQ
open AutoSeq1 (wpAny_loadPart')
open MeetsSeq MeetsSeq2 MeetsSeq3 SeqRoads2
section
variable {prog : Program} {w : World} {A : Around} {R : Result → Shared → Prop}
theorem listNe0 (p q : Addr) (as : Array Value) (m k : Nat) (d1 d2 : Option Addr) (o1 o2 : Array (Option Value)) (h0 : as.size ≠ 0) {s : Shared} (hp : s.heap.get? p = some { cls := .type "list", dict := d1, data := .seq as m, slots := o1 }) (hq : s.heap.get? q = some { cls := .type "list", dict := d2, data := .seq #[] k, slots := o2 })
    (stop : R (.ok (.ret (.bool true))) s) :
    wpAny (model prog w) A.in1 (Builtin.«list.__ne__» ⟨[.ref p, .ref q], []⟩) (FinOf prog w A R) (fun e s2 => R (.error e) s2) s := by
  have sub := AutoSeq1.sub_list_list
  obtain ⟨g0, g1, g2, g3, g4⟩ := s
  wp_walk using wpAny_loadPart' hp, wpAny_loadPart' hq
  exact stop
end
section
variable {prog : Program} {w : World} {A : Around} {E : Value → Shared → Prop} {s : Shared}
theorem rcNe0 {p q : Addr} {as : Array Value} {Q : Value → Shared → Prop} (h0 : as.size ≠ 0) (hu : A.units < cLine) (hp : s.heap.IsList p as) (hq : s.heap.IsList q #[]) (stop : Q (.bool true) s) : wpAny (model prog w) A (richCompare .NotEq (.ref p) (.ref q)) Q E s := by
  obtain ⟨⟨c1, d1, t1, o1⟩, e1, k1, n1, z1⟩ := id hp
  obtain ⟨⟨c2, d2, t2, o2⟩, e2, k2, n2, z2⟩ := id hq
  simp only at k1 z1 k2 z2
  subst k1 z1 k2 z2
  refine wpAny_richCompare_same_room (op := .NotEq) ⟨_, e1, rfl⟩ ⟨_, e2, rfl⟩ F.slot_list_ne (call_here F.slot_list_ne ⟨_, e1, rfl⟩ F.entry_list_ne (F.args_list_ne_2 _ _) ?_) hu
  exact listNe0 (R := wants (fun v s2 => v ≠ .notImplemented ∧ Q v s2) E) p q as n1 n2 d1 d2 o1 o2 h0 e1 e2 ⟨(fun x => nomatch x), stop⟩
end
end RN
namespace AW
open PySem PySem.Spec PyProof.Rows L2
section
variable {X : Cx}
/-- a list != the empty list -/
def rNeNil (K : PySem.W.Frag) : R2 := fun x y H Q => ∃ a b xs, x = .ref a ∧ y = .ref b ∧ SqL K H a xs ∧ SqL K H b [] ∧ Dp K H (.ref b) (.list []) ∧ (xs = [] → Dp K H (.ref a) (.list [])) ∧ Q (.bl (!xs.isEmpty)) H
theorem op_neNil (hu : X.A.units + 64 < cLine) : OpR X (compareOp .NotEq) (rNeNil X.K) := by
  intro pins s σ H x y v u Q I rx ry h
  obtain ⟨a, b, xs, rfl, rfl, ha, hb, db, da, q⟩ := h
  cases xs with
  | nil => exact op_neD hu pins s σ H _ _ v u Q I rx ry ⟨.list [], .list [], da rfl, db, rfl, rfl, q⟩
  | cons z r =>
    cases rx
    cases ry
    obtain ⟨its, r1, e1, _⟩ := I.list ha
    obtain ⟨its2, r2, e2, _⟩ := I.list hb
    have h2 : its2 = [] := by have := r2.length; exact List.eq_nil_of_length_eq_zero this.symm
    subst h2
    show wpAny (model X.prog X.w) X.A (richCompare .NotEq _ _) (EP X pins σ Q) X.xe s
    refine RN.rcNe0 (as := its.toArray) (by rw [List.size_toArray, ← r1.length]; exact Nat.succ_ne_zero _) (by omega) e1.isList e2.isList ⟨.bl true, H, I, rfl, q⟩
/-- x not in a list of data -/
def rNinL (K : PySem.W.Frag) : R2 := fun x y H Q => ∃ d ds, Dp K H x d ∧ Dp K H y (.list ds) ∧ SeqAt.shaped d = true ∧ SeqAt.shaped (.list ds) = true ∧ Q (.bl (!ds.any fun z => PyData.eqv z d)) H
theorem op_ninL (hu : X.A.units + 65 < cLine) : OpR X (compareOp .NotIn) (rNinL X.K) := by
  intro pins s σ H x y v u Q I rx ry h
  obtain ⟨d, ds, hd, he, sd, se, q⟩ := h
  obtain ⟨as, r1⟩ := Dp.reads I d x v hd rx
  obtain ⟨bs, r2⟩ := Dp.reads I (.list ds) y u he ry
  exact SeqAt.notIn_list_reads r2 r1 (SeqAt.canLay_of_shaped (d := .list ds) se) (SeqAt.canLay_of_shaped sd) (room_in_shaped sd hu) ⟨.bl _, H, I, rfl, q⟩
end
end AW

set_option linter.all false
set_option maxRecDepth 100000
set_option maxHeartbeats 4000000
/-! The data layer: values as data, without addresses. -/
namespace AW
open PySem PySem.Spec PyProof.Rows L2 LamX
/-- the tables of the lambdas, of a law's text -/
class Tbs where
  T : List (Addr × Str)
inductive D where
  | non | bl (b : Bool) | int (i : Int) | str (x : Str)
  | tup (ds : List D) | lst (ds : List D)
  | ins (C : Addr) (ns : List Str) (ds : List D)
  | pen (k l : Str)
  | scr (ns : List Int)
  | val (v : V)
  | lam (q : Str) (mk : Addr → Addr → HO)
  | at_ (u : V) (d : D)
  | edk
  | dk (ks : List Str) (ds : List D)
  | tb (d : D)
def penE (k l : Str) (c : Addr) (s r : Int) : List (Key × V) := [(Sum.inr "cells", .ref c), (Sum.inr k, .int s), (Sum.inr l, .int r)]
def IsPen (o : HO) : Prop := (∃ k l c s r, o = .dK (penE k l c s r)) ∨ ∃ ps, o = .tbl ps
variable [Tbs]
section
variable (K : PySem.W.Frag) (G : Hp) (B : Int)
mutual
def Rep : D → V → Prop
  | .non, v => v = .non
  | .bl b, v => v = .bl b
  | .int i, v => v = .int i
  | .str x, v => v = .str x
  | .tup ds, v => ∃ a vs, v = .ref a ∧ SqT K G a vs ∧ RepL ds vs
  | .lst ds, v => ∃ a vs, v = .ref a ∧ G a = some (.lst vs) ∧ RepL ds vs
  | .ins C ns ds, v => ∃ a dx vs, v = .ref a ∧ G a = some (.ins C dx (ns.zip vs)) ∧ ns.length = vs.length ∧ RepL ds vs
  | .pen k l, v => Tabs Tbs.T G ∧ ∃ (a c : Addr) (ns : List Int) (s r : Int), v = .ref a ∧ G a = some (.dK (penE k l c s r)) ∧ G c = some (.lst (ns.map V.int)) ∧ ns.length ≤ 63 ∧ 0 ≤ s ∧ s ≤ B
  | .val u, v => v = u
  | .at_ u d, v => v = u ∧ Rep d v
  | .tb d, v => Tabs Tbs.T G ∧ Rep d v
  | .edk, v => ∃ a, v = .ref a ∧ G a = some (.dK [])
  | .dk ks ds, v => ∃ a vs, v = .ref a ∧ G a = some (.dK (mergeK [] ((ks.zip vs).map fun p => ((Sum.inr p.1 : Key), p.2)))) ∧ ¬ IsPen (.dK (mergeK [] ((ks.zip vs).map fun p => ((Sum.inr p.1 : Key), p.2)))) ∧ RepL ds vs
  | .lam q mk, v => ∃ f d, v = .ref f ∧ G f = some (mk f d) ∧ G d = some (CodeO d q) ∧ ¬ IsPen (mk f d)
  | .scr ns, v => Tabs Tbs.T G ∧ ∃ a, v = .ref a ∧ SqL K G a ((ns : List Int).map V.int)
def RepL : List D → List V → Prop
  | [], vs => vs = []
  | d :: ds, vs => ∃ v r, vs = v :: r ∧ Rep d v ∧ RepL ds r
end
end
def Sub (G H : Hp) : Prop := ∀ a o, G a = some o → H a = some o
structure Le (G : Hp) (B : Int) (G' : Hp) (B' : Int) : Prop where
  b : B ≤ B'
  keep : ∀ a o, G a = some o → ¬ IsPen o → G' a = some o
  pen : ∀ a k l c s r, G a = some (.dK (penE k l c s r)) → ∃ s' r', G' a = some (.dK (penE k l c s' r')) ∧ (0 ≤ s → s ≤ B → 0 ≤ s' ∧ s' ≤ B')
  tb : Tabs Tbs.T G → Tabs Tbs.T G'
theorem Le.refl (G : Hp) (B : Int) : Le G B G B := ⟨Int.le_refl _, fun _ _ h _ => h, fun _ _ _ _ s r h => ⟨s, r, h, fun a b => ⟨a, b⟩⟩, fun h => h⟩
theorem Le.trans {G G1 G2 : Hp} {B B1 B2 : Int} (a : Le G B G1 B1) (b : Le G1 B1 G2 B2) : Le G B G2 B2 :=
  ⟨Int.le_trans a.b b.b, fun c o h n => b.keep c o (a.keep c o h n) n, fun c k l q s r h => by
    obtain ⟨s1, r1, h1, k1⟩ := a.pen c k l q s r h
    obtain ⟨s2, r2, h2, k2⟩ := b.pen c k l q s1 r1 h1
    exact ⟨s2, r2, h2, fun x y => k2 (k1 x y).1 (k1 x y).2⟩, fun h => b.tb (a.tb h)⟩
theorem Le.of_sub {G H : Hp} {B B' : Int} (s : Sub G H) (b : B ≤ B') : Le G B H B' := ⟨b, fun a o h _ => s a o h, fun a k l c z r h => ⟨z, r, s _ _ h, fun x y => ⟨x, Int.le_trans y b⟩⟩, fun h => h.ext s⟩
theorem nopen_tup {xs : List V} : ¬ IsPen (.tup xs) := fun h => by
  rcases h with ⟨_, _, _, _, _, h⟩ | ⟨_, h⟩ <;> cases h
theorem nopen_lst {xs : List V} : ¬ IsPen (.lst xs) := fun h => by
  rcases h with ⟨_, _, _, _, _, h⟩ | ⟨_, h⟩ <;> cases h
theorem nopen_ins {C dx : Addr} {fs : List (Str × V)} : ¬ IsPen (.ins C dx fs) := fun h => by
  rcases h with ⟨_, _, _, _, _, h⟩ | ⟨_, h⟩ <;> cases h
theorem nopen_frz {o : Obj} {u : HO} : ¬ IsPen (.frz o u) := fun h => by
  rcases h with ⟨_, _, _, _, _, h⟩ | ⟨_, h⟩ <;> cases h
theorem nopen_edk : ¬ IsPen (.dK []) := fun h => by
  rcases h with ⟨_, _, _, _, _, h⟩ | ⟨_, h⟩ <;> cases h
theorem nopen_code {c : Addr} {q : Str} : ¬ IsPen (CodeO c q) := fun h => by
  unfold CodeO at h
  rcases h with ⟨_, _, _, _, _, h⟩ | ⟨_, h⟩ <;> cases h
theorem nopen_lamO {q : Str} {ar : Arguments} {bd : Expr} {sc : Scope} {cl : List (Str × Addr)} {f d : Addr} : ¬ IsPen (LamO q ar bd sc cl f d) := fun h => by
  unfold LamO at h
  rcases h with ⟨_, _, _, _, _, h⟩ | ⟨_, h⟩ <;> cases h
theorem Le.seqT {K : PySem.W.Frag} {G G' : Hp} {B B' : Int} {a : Addr} {xs : List V} (l : Le G B G' B') (h : SqT K G a xs) : SqT K G' a xs := by
  rcases h with (h | ⟨o, h⟩) | h
  · exact .inl (.inl (l.keep _ _ h nopen_tup))
  · exact .inl (.inr ⟨o, l.keep _ _ h nopen_frz⟩)
  · exact .inr h
theorem Le.seqL {K : PySem.W.Frag} {G G' : Hp} {B B' : Int} {a : Addr} {xs : List V} (l : Le G B G' B') (h : SqL K G a xs) : SqL K G' a xs := by
  rcases h with (h | ⟨o, h⟩) | h
  · exact .inl (.inl (l.keep _ _ h nopen_lst))
  · exact .inl (.inr ⟨o, l.keep _ _ h nopen_frz⟩)
  · exact .inr h
section
variable {K : PySem.W.Frag} {G G' : Hp} {B B' : Int}
mutual
theorem Rep.mono (l : Le G B G' B') : ∀ {d : D} {v : V}, Rep K G B d v → Rep K G' B' d v
  | .non, _, h => h
  | .bl _, _, h => h
  | .int _, _, h => h
  | .str _, _, h => h
  | .tup _, _, ⟨a, vs, e, h, r⟩ => ⟨a, vs, e, l.seqT h, RepL.mono l r⟩
  | .lst _, _, ⟨a, vs, e, h, r⟩ => ⟨a, vs, e, l.keep _ _ h nopen_lst, RepL.mono l r⟩
  | .ins _ _ _, _, ⟨a, dx, vs, e, h, n, r⟩ => ⟨a, dx, vs, e, l.keep _ _ h nopen_ins, n, RepL.mono l r⟩
  | .pen k j, _, ⟨hT, a, c, ns, s, r, e, h, hc, n, h0, h1⟩ => by
    obtain ⟨s', r', h', q⟩ := l.pen a k j c s r h
    exact ⟨l.tb hT, a, c, ns, s', r', e, h', l.keep _ _ hc nopen_lst, n, (q h0 h1).1, (q h0 h1).2⟩
  | .val _, _, h => h
  | .at_ _ _, _, ⟨e, h⟩ => ⟨e, Rep.mono l h⟩
  | .tb _, _, ⟨e, h⟩ => ⟨l.tb e, Rep.mono l h⟩
  | .edk, _, ⟨a, e, h⟩ => ⟨a, e, l.keep _ _ h nopen_edk⟩
  | .dk _ _, _, ⟨a, vs, e, h, n, r⟩ => ⟨a, vs, e, l.keep _ _ h n, n, RepL.mono l r⟩
  | .lam _ _, _, ⟨f, d, e, h1, h2, n⟩ => ⟨f, d, e, l.keep _ _ h1 n, l.keep _ _ h2 nopen_code, n⟩
  | .scr _, _, ⟨hT, a, e, h⟩ => ⟨l.tb hT, a, e, l.seqL h⟩
theorem RepL.mono (l : Le G B G' B') : ∀ {ds : List D} {vs : List V}, RepL K G B ds vs → RepL K G' B' ds vs
  | [], _, h => h
  | _ :: _, _, ⟨v, r, e, h, hr⟩ => ⟨v, r, e, Rep.mono l h, RepL.mono l hr⟩
end
theorem RepL.length : ∀ {ds : List D} {vs : List V}, RepL K G B ds vs → ds.length = vs.length
  | [], _, h => by rw [show _ = _ from h]; rfl
  | _ :: _, _, ⟨v, r, e, h, hr⟩ => by rw [e, List.length_cons, List.length_cons, RepL.length hr]
theorem RepL.get : ∀ {ds : List D} {vs : List V} {i : Nat} {d : D}, RepL K G B ds vs → ds[i]? = some d → ∃ v, vs[i]? = some v ∧ Rep K G B d v
  | [], _, _, _, _, e => by simp at e
  | _ :: _, _, 0, d, ⟨v, r, e, h, hr⟩, q => by
    simp at q; subst q
    exact ⟨v, by rw [e]; rfl, h⟩
  | _ :: _, _, i + 1, d, ⟨v, r, e, h, hr⟩, q => by
    obtain ⟨u, h1, h2⟩ := RepL.get (i := i) hr (by simpa using q)
    exact ⟨u, by rw [e]; simpa using h1, h2⟩
theorem RepL.get' : ∀ {ds : List D} {vs : List V} {i : Nat} {v : V}, RepL K G B ds vs → vs[i]? = some v → ∃ d, ds[i]? = some d ∧ Rep K G B d v
  | [], _, i, _, h, e => by rw [show _ = _ from h] at e; simp at e
  | d :: _, _, 0, v, ⟨u, r, e, h, hr⟩, q => by
    rw [e] at q; simp at q; subst q
    exact ⟨d, rfl, h⟩
  | d :: _, _, i + 1, v, ⟨u, r, e, h, hr⟩, q => by
    rw [e] at q
    obtain ⟨w, h1, h2⟩ := RepL.get' (i := i) hr (by simpa using q)
    exact ⟨w, by simpa using h1, h2⟩
theorem RepL.append : ∀ {ds es : List D} {vs ws : List V}, RepL K G B ds vs → RepL K G B es ws → RepL K G B (ds ++ es) (vs ++ ws)
  | [], _, _, _, h, k => by rw [show _ = _ from h]; exact k
  | _ :: _, _, _, _, ⟨v, r, e, h, hr⟩, k => ⟨v, r ++ _, by rw [e]; rfl, h, RepL.append hr k⟩
theorem RepL.take : ∀ {ds : List D} {vs : List V} (n : Nat), RepL K G B ds vs → RepL K G B (ds.take n) (vs.take n)
  | _, _, 0, _ => by simp [RepL]
  | [], _, n + 1, h => by rw [show _ = _ from h]; simp [RepL]
  | _ :: _, _, n + 1, ⟨v, r, e, h, hr⟩ => ⟨v, r.take n, by rw [e]; rfl, h, RepL.take n hr⟩
theorem RepL.drop : ∀ {ds : List D} {vs : List V} (n : Nat), RepL K G B ds vs → RepL K G B (ds.drop n) (vs.drop n)
  | _, _, 0, h => h
  | [], _, n + 1, h => by rw [show _ = _ from h]; simp [RepL]
  | _ :: _, _, n + 1, ⟨v, r, e, h, hr⟩ => by rw [e]; exact RepL.drop n hr
theorem RepL.ints : ∀ ns : List Int, RepL K G B (ns.map D.int) (ns.map V.int)
  | [] => rfl
  | _ :: r => ⟨_, _, rfl, rfl, RepL.ints r⟩
end
/-- the heap H with its known part G, grown to H' with G' -/
structure Ext (G H : Hp) (B : Int) (G' H' : Hp) (B' : Int) : Prop where
  le : Le G B G' B'
  sub : Sub G' H'
  fr : ∀ a o, H a = some o → G a = none → (∀ ps, o ≠ .tbl ps) → H' a = some o ∧ G' a = none
theorem Ext.refl {G H : Hp} {B : Int} (s : Sub G H) : Ext G H B G H B := ⟨Le.refl _ _, s, fun _ _ h n _ => ⟨h, n⟩⟩
theorem Ext.trans {G H G1 H1 G2 H2 : Hp} {B B1 B2 : Int} (a : Ext G H B G1 H1 B1) (b : Ext G1 H1 B1 G2 H2 B2) : Ext G H B G2 H2 B2 :=
  ⟨a.le.trans b.le, b.sub, fun c o h n t => b.fr c o (a.fr c o h n t).1 (a.fr c o h n t).2 t⟩
/-- a new known object -/
theorem Ext.new {G H : Hp} {B : Int} {p : Addr} {o : HO} (s : Sub G H) (h : H p = none) : Ext G H B (upd G p o) (upd H p o) B := by
  have g : G p = none := by
    cases e : G p with
    | none => rfl
    | some u => rw [s _ _ e] at h; cases h
  refine ⟨Le.of_sub (fun a u e => by rw [upd_ne (ne_of_none e g)]; exact e) (Int.le_refl _), fun a u e => ?_, fun a u e n _ => ?_⟩
  · by_cases q : a = p
    · subst q; rw [upd_same] at e ⊢; exact e
    · rw [upd_ne q] at e ⊢; exact s _ _ e
  · have q := ne_of_none e h
    rw [upd_ne q, upd_ne q]
    exact ⟨e, n⟩
/-- a new object that is not told -/
theorem Ext.hid {G H : Hp} {B : Int} {p : Addr} {o : HO} (s : Sub G H) (h : H p = none) : Ext G H B G (upd H p o) B :=
  ⟨Le.refl _ _, fun a u e => by rw [upd_ne (ne_of_none (s _ _ e) h)]; exact s _ _ e, fun a u e n _ => ⟨by rw [upd_ne (ne_of_none e h)]; exact e, n⟩⟩
def EnvR (K : PySem.W.Frag) (G : Hp) (B : Int) : List (Option D) → L2.St → Prop
  | [], σ => σ = []
  | o :: ρ, σ => ∃ x r, σ = x :: r ∧ (∀ d, o = some d → ∃ v, x = some v ∧ Rep K G B d v) ∧ EnvR K G B ρ r
section
variable {K : PySem.W.Frag} {G G' : Hp} {B B' : Int}
theorem EnvR.mono (l : Le G B G' B') : ∀ {ρ : List (Option D)} {σ : L2.St}, EnvR K G B ρ σ → EnvR K G' B' ρ σ
  | [], _, h => h
  | _ :: _, _, ⟨x, r, e, h, hr⟩ => ⟨x, r, e, fun d q => let ⟨v, h1, h2⟩ := h d q; ⟨v, h1, h2.mono l⟩, EnvR.mono l hr⟩
theorem EnvR.get : ∀ {ρ : List (Option D)} {σ : L2.St} {i : Nat} {d : D}, EnvR K G B ρ σ → ρ[i]? = some (some d) → ∃ v, σ[i]? = some (some v) ∧ Rep K G B d v
  | [], _, _, _, _, e => by simp at e
  | _ :: _, _, 0, d, ⟨x, r, e, h, hr⟩, q => by
    simp at q; subst q
    obtain ⟨v, h1, h2⟩ := h d rfl
    exact ⟨v, by rw [e, h1]; rfl, h2⟩
  | _ :: _, _, i + 1, d, ⟨x, r, e, h, hr⟩, q => by
    obtain ⟨v, h1, h2⟩ := EnvR.get (i := i) hr (by simpa using q)
    exact ⟨v, by rw [e]; simpa using h1, h2⟩
theorem EnvR.set {d : D} {v : V} (hv : Rep K G B d v) : ∀ {ρ : List (Option D)} {σ : L2.St} (i : Nat), EnvR K G B ρ σ → EnvR K G B (ρ.set i (some d)) (σ.set i (some v))
  | [], _, _, h => by rw [show _ = _ from h]; exact rfl
  | _ :: _, _, 0, ⟨x, r, e, h, hr⟩ => ⟨some v, r, by rw [e]; rfl, fun d' q => by cases q; exact ⟨v, rfl, hv⟩, hr⟩
  | _ :: _, _, i + 1, ⟨x, r, e, h, hr⟩ => ⟨x, r.set i (some v), by rw [e]; rfl, h, EnvR.set hv i hr⟩
theorem EnvR.wipe1 : ∀ {ρ : List (Option D)} {σ : L2.St} (i : Nat), EnvR K G B ρ σ → EnvR K G B (ρ.set i none) (σ.set i none)
  | [], _, _, h => by rw [show _ = _ from h]; exact rfl
  | _ :: _, _, 0, ⟨x, r, e, h, hr⟩ => ⟨none, r, by rw [e]; rfl, (fun d' q => by cases q), hr⟩
  | _ :: _, _, i + 1, ⟨x, r, e, h, hr⟩ => ⟨x, r.set i none, by rw [e]; rfl, h, EnvR.wipe1 i hr⟩
theorem EnvR.len : ∀ {ρ : List (Option D)} {σ : L2.St}, EnvR K G B ρ σ → ρ.length = σ.length
  | [], _, h => by rw [show _ = _ from h]; rfl
  | _ :: _, _, ⟨x, r, e, h, hr⟩ => by rw [e, List.length_cons, List.length_cons, EnvR.len hr]
theorem EnvR.of_vals : ∀ {ds : List D} {vs : List V} (n : Nat), RepL K G B ds vs → EnvR K G B (ds.map some ++ List.replicate n none) (vs.map some ++ List.replicate n none)
  | [], _, n, h => by
    rw [show _ = _ from h]
    show EnvR K G B (List.replicate n none) (List.replicate n none)
    induction n with
    | zero => exact rfl
    | succ n ih => exact ⟨none, List.replicate n none, rfl, (fun d q => by cases q), ih⟩
  | d :: _, _, n, ⟨v, r, e, h, hr⟩ => ⟨some v, r.map some ++ List.replicate n none, by rw [e]; rfl, fun d' q => by cases q; exact ⟨v, rfl, h⟩, EnvR.of_vals n hr⟩
end
def wipeD (ρ : List (Option D)) : List Nat → List (Option D)
  | [] => ρ
  | v :: vs => (wipeD ρ vs).set v none
theorem EnvR.wipe {K : PySem.W.Frag} {G : Hp} {B : Int} {ρ : List (Option D)} {σ : L2.St} (h : EnvR K G B ρ σ) : ∀ vs : List Nat, EnvR K G B (wipeD ρ vs) (L2.wipe σ vs)
  | [] => h
  | v :: vs => EnvR.wipe1 v (EnvR.wipe h vs)
def startD (N : List Str) (ds : List D) : List (Option D) := ds.map some ++ List.replicate (N.length - ds.length) none
/-- what is wanted of errors: class, fields, the pens' bound -/
abbrev EW := Addr → Option (List Str × List D) → Int → Prop
def XOk (K : PySem.W.Frag) (E : XK) (e : EW) (G H : Hp) (B : Int) : Prop := ∀ C f B' G' H', e C f B' → Ext G H B G' H' B' →
  match f with
  | none => E (.ref C) none H'
  | some (ns, ds) => ∀ dx vs, H' dx = some (.xd (ns.zip vs)) → ns.length = vs.length → RepL K G' B' ds vs → E (.ref C) (some dx) H'
theorem XOk.ext {K : PySem.W.Frag} {E : XK} {e : EW} {G H G1 H1 : Hp} {B B1 : Int} (x : XOk K E e G H B) (h : Ext G H B G1 H1 B1) : XOk K E e G1 H1 B1 := fun C f B' G' H' q h' => x C f B' G' H' q (h.trans h')
abbrev KD := D → Int → Prop
abbrev KL := List D → Int → Prop
abbrev KE' := List (Option D) → Int → Prop
def KOk (K : PySem.W.Frag) (k : KD) (Q : VK) (G H : Hp) (B : Int) : Prop := ∀ d v B' G' H', k d B' → Ext G H B G' H' B' → Rep K G' B' d v → Q v H'
theorem KOk.ext {K : PySem.W.Frag} {k : KD} {Q : VK} {G H G1 H1 : Hp} {B B1 : Int} (x : KOk K k Q G H B) (h : Ext G H B G1 H1 B1) : KOk K k Q G1 H1 B1 := fun d v B' G' H' q h' => x d v B' G' H' q (h.trans h')
def NOk (K : PySem.W.Frag) (k : KE') (Q : L2.St → Hp → Prop) (G H : Hp) (B : Int) : Prop := ∀ ρ σ B' G' H', k ρ B' → Ext G H B G' H' B' → EnvR K G' B' ρ σ → Q σ H'
theorem NOk.ext {K : PySem.W.Frag} {k : KE'} {Q : L2.St → Hp → Prop} {G H G1 H1 : Hp} {B B1 : Int} (x : NOk K k Q G H B) (h : Ext G H B G1 H1 B1) : NOk K k Q G1 H1 B1 := fun d v B' G' H' q h' => x d v B' G' H' q (h.trans h')
/-- an expression -/
def We (K : PySem.W.Frag) (E : XK) (e : EW) (t : TE) (ρ : List (Option D)) (B : Int) (k : KD) : Prop := ∀ σ H G Q, Sub G H → EnvR K G B ρ σ → XOk K E e G H B → KOk K k Q G H B → t σ H Q
/-- a test -/
def Wt (K : PySem.W.Frag) (E : XK) (e : EW) (t : TT) (ρ : List (Option D)) (B : Int) (k : Bool → Int → Prop) : Prop := ∀ σ H G (Q : Bool → Hp → Prop), Sub G H → EnvR K G B ρ σ → XOk K E e G H B → (∀ b B' G' H', k b B' → Ext G H B G' H' B' → Q b H') → t σ H Q
/-- arguments -/
def Wa (K : PySem.W.Frag) (E : XK) (e : EW) (t : TA) (ρ : List (Option D)) (B : Int) (k : KL) : Prop := ∀ σ H G (Q : List V → Hp → Prop), Sub G H → EnvR K G B ρ σ → XOk K E e G H B → (∀ ds vs B' G' H', k ds B' → Ext G H B G' H' B' → RepL K G' B' ds vs → Q vs H') → t σ H Q
structure KS where
  nx : KE' := fun _ _ => False
  rt : KD
  bk : KE' := fun _ _ => False
  ct : KE' := fun _ _ => False
structure EndsOk (K : PySem.W.Frag) (κ : KS) (Dn : Ends) (G H : Hp) (B : Int) : Prop where
  nx : NOk K κ.nx Dn.nx G H B
  rt : KOk K κ.rt Dn.rt G H B
  bk : NOk K κ.bk Dn.bk G H B
  ct : NOk K κ.ct Dn.ct G H B
theorem EndsOk.ext {K : PySem.W.Frag} {κ : KS} {Dn : Ends} {G H G1 H1 : Hp} {B B1 : Int} (x : EndsOk K κ Dn G H B) (h : Ext G H B G1 H1 B1) : EndsOk K κ Dn G1 H1 B1 := ⟨x.nx.ext h, x.rt.ext h, x.bk.ext h, x.ct.ext h⟩
/-- a statement -/
def Ws (K : PySem.W.Frag) (E : XK) (e : EW) (t : TS) (ρ : List (Option D)) (B : Int) (κ : KS) : Prop := ∀ σ H G Dn, Sub G H → EnvR K G B ρ σ → XOk K E e G H B → EndsOk K κ Dn G H B → t Dn σ H
/-- a target -/
def Wg (K : PySem.W.Frag) (g : TG) (d : D) (ρ : List (Option D)) (B : Int) (k : KE') : Prop := ∀ v σ H G Q, Sub G H → EnvR K G B ρ σ → Rep K G B d v → NOk K k Q G H B → g v σ H Q
def Wgs (K : PySem.W.Frag) (g : TGs) (ds : List D) (ρ : List (Option D)) (B : Int) (k : KE') : Prop := ∀ vs σ H G Q, Sub G H → EnvR K G B ρ σ → RepL K G B ds vs → NOk K k Q G H B → g vs σ H Q
section
variable {K : PySem.W.Frag} {E : XK} {e : EW} {ρ : List (Option D)} {B : Int} {k : KD} {κ : KS} {ta tb : TE} {t : TA}
theorem We.at {t : TE} {d : D} (h : ∀ σ H G, Sub G H → EnvR K G B ρ σ → ∃ v, Rep K G B d v ∧ ∀ Q : VK, Q v H → t σ H Q) (hk : k d B) : We K E e t ρ B k := fun σ H G Q s en x q => by
  obtain ⟨v, r, f⟩ := h σ H G s en
  exact f Q (q d v B G H hk (Ext.refl s) r)
theorem we_var {i : Nat} {d : D} (h : ρ[i]? = some (some d)) (hk : k d B) : We K E e (tVar i) ρ B k :=
  We.at (fun σ H G s en => let ⟨v, h1, h2⟩ := en.get h; ⟨v, h2, fun Q q => ⟨v, h1, q⟩⟩) hk
theorem we_int {i : Int} (hk : k (.int i) B) : We K E e (tC (.int i)) ρ B k := We.at (d := (.int i)) (fun σ H G s en => ⟨.int i, rfl, fun Q q => q⟩) hk
theorem we_bl {i : Bool} (hk : k (.bl i) B) : We K E e (tC (.bl i)) ρ B k := We.at (d := (.bl i)) (fun σ H G s en => ⟨.bl i, rfl, fun Q q => q⟩) hk
theorem we_str {i : Str} (hk : k (.str i) B) : We K E e (tC (.str i)) ρ B k := We.at (d := (.str i)) (fun σ H G s en => ⟨.str i, rfl, fun Q q => q⟩) hk
theorem we_val {v : V} (hk : k (.val v) B) : We K E e (tC v) ρ B k := We.at (d := .val v) (fun σ H G s en => ⟨v, rfl, fun Q q => q⟩) hk
theorem we_non (hk : k .non B) : We K E e (tC .non) ρ B k := We.at (d := .non) (fun σ H G s en => ⟨.non, rfl, fun Q q => q⟩) hk
theorem We.imp {t : TE} {k' : KD} (h : We K E e t ρ B k) (f : ∀ d B', k d B' → k' d B') : We K E e t ρ B k' := fun σ H G Q s en x q => h σ H G Q s en x fun d v B' G' H' hk => q d v B' G' H' (f d B' hk)
/-- two values -/
def Ro (K : PySem.W.Frag) (E : XK) (e : EW) (r : R2) (a b : D) (B : Int) (k : KD) : Prop := ∀ x y H G Q, Sub G H → Rep K G B a x → Rep K G B b y → XOk K E e G H B → KOk K k Q G H B → r x y H Q
theorem we_op {r : R2} (h : We K E e ta ρ B fun a B1 => We K E e tb ρ B1 fun b B2 => Ro K E e r a b B2 k) : We K E e (tOp r ta tb) ρ B k := fun σ H G Q s en x q =>
  h σ H G _ s en x fun a v B1 G1 H1 h1 e1 r1 => h1 σ H1 G1 _ e1.sub (en.mono e1.le) (x.ext e1) fun b u B2 G2 H2 h2 e2 r2 =>
    h2 v u H2 G2 Q e2.sub (r1.mono e2.le) r2 (x.ext (e1.trans e2)) (q.ext (e1.trans e2))
theorem ro_i0 {f : Int → Int → Int} {i j : Int} (h : k (.int (f i j)) B) : Ro K E e (rI0 fun i j => V.int (f i j)) (.int i) (.int j) B k := fun x y H G Q s r1 r2 _ q =>
  ⟨i, j, r1, r2, q _ _ _ _ _ h (Ext.refl s) rfl⟩
theorem ro_b0 {f : Int → Int → Bool} {i j : Int} (h : k (.bl (f i j)) B) : Ro K E e (rI0 fun i j => V.bl (f i j)) (.int i) (.int j) B k := fun x y H G Q s r1 r2 _ q =>
  ⟨i, j, r1, r2, q _ _ _ _ _ h (Ext.refl s) rfl⟩
theorem ro_i {f : Int → Int → Int} {C : Int → Int → Prop} {i j : Int} (c : C i j) (h : k (.int (f i j)) B) : Ro K E e (rI C fun i j => V.int (f i j)) (.int i) (.int j) B k := fun x y H G Q s r1 r2 _ q =>
  ⟨i, j, r1, r2, c, q _ _ _ _ _ h (Ext.refl s) rfl⟩
theorem we_un {r : V → Hp → VK → Prop} (h : We K E e ta ρ B fun a B1 => ∀ x H G Q, Sub G H → Rep K G B1 a x → XOk K E e G H B1 → KOk K k Q G H B1 → r x H Q) : We K E e (tUn r ta) ρ B k := fun σ H G Q s en x q =>
  h σ H G _ s en x fun a v B1 G1 H1 h1 e1 r1 => h1 v H1 G1 Q e1.sub r1 (x.ext e1) (q.ext e1)
theorem we_neg {f : Int → Int} (h : We K E e ta ρ B fun a B1 => ∃ i, a = .int i ∧ k (.int (f i)) B1) : We K E e (tUn (rU fun i => V.int (f i)) ta) ρ B k :=
  we_un (h.imp fun a B1 ⟨i, ea, hk⟩ x H G Q s r xo q => by
    subst ea
    exact ⟨i, r, q _ _ _ _ _ hk (Ext.refl s) rfl⟩)
theorem wa_nil {k : KL} (h : k [] B) : Wa K E e tNil ρ B k := fun σ H G Q s en x q => q _ _ _ _ _ h (Ext.refl s) rfl
theorem wa_cons {k : KL} (h : We K E e ta ρ B fun a B1 => Wa K E e t ρ B1 fun ds B2 => k (a :: ds) B2) : Wa K E e (tCons ta t) ρ B k := fun σ H G Q s en x q =>
  h σ H G _ s en x fun a v B1 G1 H1 h1 e1 r1 => h1 σ H1 G1 _ e1.sub (en.mono e1.le) (x.ext e1) fun ds vs B2 G2 H2 h2 e2 r2 => q _ _ _ _ _ h2 (e1.trans e2) ⟨v, vs, rfl, r1.mono e2.le, r2⟩
theorem we_tup (h : Wa K E e t ρ B fun ds B1 => ds.length ≤ sizeLine ∧ k (.tup ds) B1) : We K E e (tTup t) ρ B k := fun σ H G Q s en x q =>
  h σ H G _ s en x fun ds vs B1 G1 H1 ⟨h0, h1⟩ e1 r1 => ⟨by rw [← r1.length]; exact h0, fun p np => q _ _ _ _ _ h1 (e1.trans (Ext.new e1.sub np)) ⟨p, vs, rfl, SqT.of upd_same, r1.mono (Ext.new (B := B1) e1.sub np).le⟩⟩
theorem we_lst (h : Wa K E e t ρ B fun ds B1 => ds.length ≤ sizeLine ∧ k (.lst ds) B1) : We K E e (tLst t) ρ B k := fun σ H G Q s en x q =>
  h σ H G _ s en x fun ds vs B1 G1 H1 ⟨h0, h1⟩ e1 r1 => ⟨by rw [← r1.length]; exact h0, fun p np => q _ _ _ _ _ h1 (e1.trans (Ext.new e1.sub np)) ⟨p, vs, rfl, upd_same, r1.mono (Ext.new (B := B1) e1.sub np).le⟩⟩
theorem we_fld {f : Str} (h : We K E e ta ρ B fun d B1 => ∃ C ns ds d', d = .ins C ns ds ∧ Cls K C ∧ NoAttr K C f ∧ (ns.zip ds).lookup f = some d' ∧ k d' B1) : We K E e (tFld K ta f) ρ B k := fun σ H G Q s en x q =>
  h σ H G _ s en x fun d v B1 G1 H1 ⟨C, ns, ds, d', ed, c, n, l, h1⟩ e1 r1 => by
    subst ed
    obtain ⟨a, dx, vs, rfl, ha, hl, hr⟩ := r1
    have z : ∀ (ns : List Str) (ds : List D) (vs : List V), RepL K G1 B1 ds vs → (ns.zip ds).lookup f = some d' → ∃ v, (ns.zip vs).lookup f = some v ∧ Rep K G1 B1 d' v := by
      intro ns
      induction ns with
      | nil => intro ds vs _ h; simp at h
      | cons n r ih =>
        intro ds vs hr h
        cases ds with
        | nil => simp at h
        | cons d0 ds =>
          obtain ⟨v0, vr, rfl, h0, h1⟩ := hr
          rw [List.zip_cons_cons, List.lookup_cons] at h ⊢
          cases hq : (f == n) with
          | true => rw [hq] at h; exact ⟨v0, rfl, by cases h; exact h0⟩
          | false => rw [hq] at h; exact ih ds vr h1 h
    obtain ⟨v, lv, rv⟩ := z ns ds vs hr l
    exact ⟨a, C, dx, _, v, rfl, e1.sub _ _ ha, c, n, lv, q _ _ _ _ _ h1 e1 rv⟩
theorem we_ifE {c : TT} (h : Wt K E e c ρ B fun b B1 => (b = true → We K E e ta ρ B1 k) ∧ (b = false → We K E e tb ρ B1 k)) : We K E e (tIf c ta tb) ρ B k := fun σ H G Q s en x q =>
  h σ H G _ s en x fun b B1 G1 H1 h1 e1 => by
    cases b with
    | true => exact h1.1 rfl σ H1 G1 Q e1.sub (en.mono e1.le) (x.ext e1) (q.ext e1)
    | false => exact h1.2 rfl σ H1 G1 Q e1.sub (en.mono e1.le) (x.ext e1) (q.ext e1)
theorem we_and (h : We K E e ta ρ B fun d B1 => ∃ b, d = .bl b ∧ (b = true → We K E e tb ρ B1 k) ∧ (b = false → k (.bl false) B1)) : We K E e (tAndV ta tb) ρ B k := fun σ H G Q s en x q =>
  h σ H G _ s en x fun d v B1 G1 H1 ⟨b, ed, h1, h2⟩ e1 r1 => by
    subst ed
    refine ⟨b, r1, ?_⟩
    cases b with
    | true => exact h1 rfl σ H1 G1 Q e1.sub (en.mono e1.le) (x.ext e1) (q.ext e1)
    | false => exact q _ _ _ _ _ (h2 rfl) e1 rfl
theorem we_or (h : We K E e ta ρ B fun d B1 => ∃ b, d = .bl b ∧ (b = true → k (.bl true) B1) ∧ (b = false → We K E e tb ρ B1 k)) : We K E e (tOrV ta tb) ρ B k := fun σ H G Q s en x q =>
  h σ H G _ s en x fun d v B1 G1 H1 ⟨b, ed, h1, h2⟩ e1 r1 => by
    subst ed
    refine ⟨b, r1, ?_⟩
    cases b with
    | true => exact q _ _ _ _ _ (h1 rfl) e1 rfl
    | false => exact h2 rfl σ H1 G1 Q e1.sub (en.mono e1.le) (x.ext e1) (q.ext e1)
theorem we_not (h : We K E e ta ρ B fun d B1 => ∃ b, d = .bl b ∧ k (.bl (!b)) B1) : We K E e (tNotV ta) ρ B k := fun σ H G Q s en x q =>
  h σ H G _ s en x fun d v B1 G1 H1 ⟨b, ed, h1⟩ e1 r1 => by
    subst ed
    exact ⟨b, r1, q _ _ _ _ _ h1 e1 rfl⟩
def isNon : D → Bool
  | .non => true
  | .val v => decide (v = .non)
  | .at_ _ d => isNon d
  | .tb d => isNon d
  | _ => false
theorem Rep.isNon {G : Hp} {B : Int} : ∀ {d : D} {v : V}, Rep K G B d v → decide (v = V.non) = isNon d
  | .non, _, h => by rw [show _ = _ from h]; rfl
  | .bl _, _, h => by rw [show _ = _ from h]; rfl
  | .int _, _, h => by rw [show _ = _ from h]; rfl
  | .str _, _, h => by rw [show _ = _ from h]; rfl
  | .tup _, _, ⟨a, vs, e, _⟩ => by rw [e]; rfl
  | .lst _, _, ⟨a, vs, e, _⟩ => by rw [e]; rfl
  | .ins _ _ _, _, ⟨a, dx, vs, e, _⟩ => by rw [e]; rfl
  | .pen _ _, _, ⟨_, a, _, _, _, _, e, _⟩ => by rw [e]; rfl
  | .scr _, _, ⟨_, a, e, _⟩ => by rw [e]; rfl
  | .lam _ _, _, ⟨f, d, e, _⟩ => by rw [e]; rfl
  | .at_ _ d, _, ⟨_, h⟩ => Rep.isNon (d := d) h
  | .tb d, _, ⟨_, h⟩ => Rep.isNon (d := d) h
  | .edk, _, ⟨a, e, _⟩ => by rw [e]; rfl
  | .dk _ _, _, ⟨a, vs, e, _⟩ => by rw [e]; rfl
  | .val _, _, h => by rw [show _ = _ from h]; rfl
theorem we_isN (h : We K E e ta ρ B fun d B1 => k (.bl (isNon d)) B1) : We K E e (tIsN ta) ρ B k := fun σ H G Q s en x q =>
  h σ H G _ s en x fun d v B1 G1 H1 h1 e1 r1 => by
    rw [r1.isNon]
    exact q _ _ _ _ _ h1 e1 rfl
theorem we_notN (h : We K E e ta ρ B fun d B1 => k (.bl (!isNon d)) B1) : We K E e (tNotN ta) ρ B k := fun σ H G Q s en x q =>
  h σ H G _ s en x fun d v B1 G1 H1 h1 e1 r1 => by
    rw [r1.isNon]
    exact q _ _ _ _ _ h1 e1 rfl
/-! tests -/
variable {kb : Bool → Int → Prop} {c d : TT}
theorem wt_val (h : We K E e ta ρ B fun d B1 => ∃ b, d = .bl b ∧ kb b B1) : Wt K E e (tB ta) ρ B kb := fun σ H G Q s en x q =>
  h σ H G _ s en x fun d v B1 G1 H1 ⟨b, ed, h1⟩ e1 r1 => by
    subst ed
    exact ⟨b, r1, q _ _ _ _ h1 e1⟩
theorem wt_test (h : We K E e ta ρ B fun d B1 => ∃ b, d = .bl b ∧ kb b B1) : Wt K E e (tTest ta) ρ B kb := fun σ H G Q s en x q =>
  h σ H G _ s en x fun d v B1 G1 H1 ⟨b, ed, h1⟩ e1 r1 => by
    subst ed
    exact ⟨b, r1, q _ _ _ _ h1 e1⟩
theorem wt_not (h : Wt K E e c ρ B fun b B1 => kb (!b) B1) : Wt K E e (tNot c) ρ B kb := fun σ H G Q s en x q =>
  h σ H G _ s en x fun b B1 G1 H1 h1 e1 => q _ _ _ _ h1 e1
theorem wt_and (h : Wt K E e c ρ B fun b B1 => (b = true → Wt K E e d ρ B1 kb) ∧ (b = false → kb false B1)) : Wt K E e (tAnd c d) ρ B kb := fun σ H G Q s en x q =>
  h σ H G _ s en x fun b B1 G1 H1 h1 e1 => by
    cases b with
    | true => exact h1.1 rfl σ H1 G1 Q e1.sub (en.mono e1.le) (x.ext e1) fun b B2 G2 H2 h2 e2 => q _ _ _ _ h2 (e1.trans e2)
    | false => exact q _ _ _ _ (h1.2 rfl) e1
theorem wt_or (h : Wt K E e c ρ B fun b B1 => (b = true → kb true B1) ∧ (b = false → Wt K E e d ρ B1 kb)) : Wt K E e (tOr c d) ρ B kb := fun σ H G Q s en x q =>
  h σ H G _ s en x fun b B1 G1 H1 h1 e1 => by
    cases b with
    | true => exact q _ _ _ _ (h1.1 rfl) e1
    | false => exact h1.2 rfl σ H1 G1 Q e1.sub (en.mono e1.le) (x.ext e1) fun b B2 G2 H2 h2 e2 => q _ _ _ _ h2 (e1.trans e2)
/-! statements -/
variable {ts us : TS}
theorem ws_ret (h : We K E e ta ρ B κ.rt) : Ws K E e (tRet ta) ρ B κ := fun σ H G Dn s en x q => h σ H G _ s en x q.rt
theorem ws_retN (h : κ.rt .non B) : Ws K E e tRetN ρ B κ := fun σ H G Dn s en x q => q.rt _ _ _ _ _ h (Ext.refl s) rfl
theorem ws_next (h : κ.nx ρ B) : Ws K E e tNext ρ B κ := fun σ H G Dn s en x q => q.nx _ _ _ _ _ h (Ext.refl s) en
theorem ws_break (h : κ.bk ρ B) : Ws K E e tBreak ρ B κ := fun σ H G Dn s en x q => q.bk _ _ _ _ _ h (Ext.refl s) en
theorem ws_cont (h : κ.ct ρ B) : Ws K E e tCont ρ B κ := fun σ H G Dn s en x q => q.ct _ _ _ _ _ h (Ext.refl s) en
theorem ws_seq (h : Ws K E e ts ρ B { κ with nx := fun ρ' B' => Ws K E e us ρ' B' κ }) : Ws K E e (tSeq ts us) ρ B κ := fun σ H G Dn s en x q =>
  h σ H G _ s en x ⟨fun ρ' σ' B' G' H' h1 e1 en1 => h1 σ' H' G' Dn e1.sub en1 (x.ext e1) (q.ext e1), q.rt, q.bk, q.ct⟩
theorem ws_drop (h : We K E e ta ρ B fun _ B1 => κ.nx ρ B1) : Ws K E e (tDrop ta) ρ B κ := fun σ H G Dn s en x q =>
  h σ H G _ s en x fun d v B1 G1 H1 h1 e1 r1 => q.nx _ _ _ _ _ h1 e1 (en.mono e1.le)
theorem ws_if (h : Wt K E e c ρ B fun b B1 => (b = true → Ws K E e ts ρ B1 κ) ∧ (b = false → Ws K E e us ρ B1 κ)) : Ws K E e (tIfS c ts us) ρ B κ := fun σ H G Dn s en x q =>
  h σ H G _ s en x fun b B1 G1 H1 h1 e1 => by
    cases b with
    | true => exact h1.1 rfl σ H1 G1 Dn e1.sub (en.mono e1.le) (x.ext e1) (q.ext e1)
    | false => exact h1.2 rfl σ H1 G1 Dn e1.sub (en.mono e1.le) (x.ext e1) (q.ext e1)
theorem ws_set {i : Nat} (h : We K E e ta ρ B fun d B1 => κ.nx (ρ.set i (some d)) B1) : Ws K E e (tAsg ta (gName i)) ρ B κ := fun σ H G Dn s en x q =>
  h σ H G _ s en x fun d v B1 G1 H1 h1 e1 r1 => q.nx _ _ _ _ _ h1 e1 (EnvR.set r1 i (en.mono e1.le))
theorem ws_asg {g : TG} (h : We K E e ta ρ B fun d B1 => Wg K g d ρ B1 κ.nx) : Ws K E e (tAsg ta g) ρ B κ := fun σ H G Dn s en x q =>
  h σ H G _ s en x fun d v B1 G1 H1 h1 e1 r1 => h1 v σ H1 G1 _ e1.sub (en.mono e1.le) r1 (q.nx.ext e1)
theorem ws_par {i j : Nat} (h : Wa K E e t ρ B fun ds B1 => ∃ a b, ds = [a, b] ∧ κ.nx ((ρ.set i (some a)).set j (some b)) B1) : Ws K E e (tPar i j t) ρ B κ := fun σ H G Dn s en x q =>
  h σ H G _ s en x fun ds vs B1 G1 H1 ⟨a, b, ed, h1⟩ e1 r1 => by
    subst ed
    obtain ⟨v, _, rfl, ra, u, _, rfl, rb, rfl⟩ := r1
    exact ⟨v, u, rfl, q.nx _ _ _ _ _ h1 e1 (EnvR.set rb j (EnvR.set ra i (en.mono e1.le)))⟩
theorem ws_par3 {i j l : Nat} (h : Wa K E e t ρ B fun ds B1 => ∃ a b c, ds = [a, b, c] ∧ κ.nx (((ρ.set i (some a)).set j (some b)).set l (some c)) B1) : Ws K E e (L2.tPar3 i j l t) ρ B κ := fun σ H G Dn s en x q =>
  h σ H G _ s en x fun ds vs B1 G1 H1 ⟨a, b, c, ed, h1⟩ e1 r1 => by
    subst ed
    obtain ⟨v, _, rfl, ra, u, _, rfl, rb, w, _, rfl, rc, rfl⟩ := r1
    exact ⟨v, u, w, rfl, q.nx _ _ _ _ _ h1 e1 (EnvR.set rc l (EnvR.set rb j (EnvR.set ra i (en.mono e1.le))))⟩
/-! targets -/
theorem wg_name {i : Nat} {d : D} {k : KE'} (h : k (ρ.set i (some d)) B) : Wg K (gName i) d ρ B k := fun v σ H G Q s en r q => q _ _ _ _ _ h (Ext.refl s) (EnvR.set r i en)
theorem wgs_nil {k : KE'} (h : k ρ B) : Wgs K gNil [] ρ B k := fun vs σ H G Q s en r q => ⟨r, q _ _ _ _ _ h (Ext.refl s) en⟩
theorem wgs_cons {g : TG} {gs : TGs} {d : D} {ds : List D} {k : KE'} (h : Wg K g d ρ B fun ρ1 B1 => Wgs K gs ds ρ1 B1 k) : Wgs K (gCons g gs) (d :: ds) ρ B k := fun vs σ H G Q s en r q => by
  obtain ⟨v, w, rfl, r1, r2⟩ := r
  exact ⟨v, w, rfl, h v σ H G _ s en r1 fun ρ1 σ1 B1 G1 H1 h1 e1 en1 => h1 w σ1 H1 G1 Q e1.sub en1 (r2.mono e1.le) (q.ext e1)⟩
theorem wg_tup {n : Nat} {gs : TGs} {ds : List D} {k : KE'} (hn : ds.length = n) (h : Wgs K gs ds ρ B k) : Wg K (gTup K n gs) (.tup ds) ρ B k := fun v σ H G Q s en r q => by
  obtain ⟨a, vs, rfl, ha, hr⟩ := r
  exact ⟨a, vs, rfl, (Le.of_sub (B := B) (B' := B) s (Int.le_refl _)).seqT ha, by rw [← hr.length]; exact hn, h vs σ H G Q s en hr q⟩
end
end AW

set_option linter.all false
set_option maxRecDepth 100000
set_option maxHeartbeats 4000000
namespace AW
open PySem PySem.Spec PyProof.Rows L2
variable [Tbs]
/-! ### defs by their promise about data -/
abbrev Pr := List D → Int → KD → EW → Prop
def noE : EW := fun _ _ _ => False
def spD (K : PySem.W.Frag) (pr : Pr) : Sp := fun vs H Q E => ∃ G ds B k e, Sub G H ∧ RepL K G B ds vs ∧ pr ds B k e ∧ KOk K k Q G H B ∧ XOk K E e G H B
theorem XOk.no {K : PySem.W.Frag} {E : XK} {G H : Hp} {B : Int} : XOk K E noE G H B := fun _ _ _ _ _ h => h.elim
theorem spD_len {K : PySem.W.Frag} {pr : Pr} {n : Nat} (h : ∀ ds B k e, pr ds B k e → ds.length = n) : ∀ vs H Q E, spD K pr vs H Q E → vs.length = n := fun vs H Q E ⟨G, ds, B, k, e, _, r, p, _⟩ => by
  rw [← r.length]
  exact h _ _ _ _ p
section
variable {K : PySem.W.Frag} {E E' : XK} {e : EW} {ρ : List (Option D)} {B : Int} {k : KD} {κ : KS} {ta tb : TE} {t : TA} {pr : Pr}
theorem we_call (h : Wa K E e t ρ B fun ds B1 => pr ds B1 k noE) : We K E e (tCall (spD K pr) [] E' t) ρ B k := fun σ H G Q s en x q =>
  h σ H G _ s en x fun ds vs B1 G1 H1 h1 e1 r1 => by
    show spD K pr (vs ++ []) H1 Q E'
    rw [List.append_nil]
    exact ⟨G1, ds, B1, k, noE, e1.sub, r1, h1, q.ext e1, XOk.no⟩
theorem we_callE (h : Wa K E e t ρ B fun ds B1 => pr ds B1 k e) : We K E e (tCall (spD K pr) [] E t) ρ B k := fun σ H G Q s en x q =>
  h σ H G _ s en x fun ds vs B1 G1 H1 h1 e1 r1 => by
    show spD K pr (vs ++ []) H1 Q E
    rw [List.append_nil]
    exact ⟨G1, ds, B1, k, e, e1.sub, r1, h1, q.ext e1, x.ext e1⟩
theorem lookup_zip_none {m : Str} : ∀ {ns : List Str} {vs : List V}, (∀ n ∈ ns, (m == n) = false) → (ns.zip vs).lookup m = none
  | [], _, _ => by simp
  | n :: ns, [], _ => by simp
  | n :: ns, v :: vs, h => by
    rw [List.zip_cons_cons, List.lookup_cons, h n (List.mem_cons_self ..)]
    exact lookup_zip_none fun q hq => h q (List.mem_cons_of_mem _ hq)
theorem we_meth {C : Addr} {m : Str} (h : We K E e ta ρ B fun d B1 => ∃ ns fs, d = .ins C ns fs ∧ (∀ n ∈ ns, (m == n) = false) ∧ Wa K E e t ρ B1 fun ds B2 => pr (d :: ds) B2 k noE) : We K E e (tMeth C m (spD K pr) [] E' ta t) ρ B k := fun σ H G Q s en x q =>
  h σ H G _ s en x fun d v B1 G1 H1 ⟨ns, fs, ed, nm, h1⟩ e1 r1 => by
    subst ed
    obtain ⟨a, dx, vs, rfl, ha, hl, hr⟩ := id r1
    refine ⟨a, dx, _, rfl, e1.sub _ _ ha, lookup_zip_none nm, ?_⟩
    refine h1 σ H1 G1 _ e1.sub (en.mono e1.le) (x.ext e1) fun ds ws B2 G2 H2 h2 e2 r2 => ?_
    show spD K pr (.ref a :: (ws ++ [])) H2 Q E'
    rw [List.append_nil]
    exact ⟨G2, .ins C ns fs :: ds, B2, k, noE, e2.sub, ⟨_, _, rfl, r1.mono e2.le, r2⟩, h2, (q.ext e1).ext e2, XOk.no⟩
theorem we_methE {C : Addr} {m : Str} (h : We K E e ta ρ B fun d B1 => ∃ ns fs, d = .ins C ns fs ∧ (∀ n ∈ ns, (m == n) = false) ∧ Wa K E e t ρ B1 fun ds B2 => pr (d :: ds) B2 k e) : We K E e (tMeth C m (spD K pr) [] E ta t) ρ B k := fun σ H G Q s en x q =>
  h σ H G _ s en x fun d v B1 G1 H1 ⟨ns, fs, ed, nm, h1⟩ e1 r1 => by
    subst ed
    obtain ⟨a, dx, vs, rfl, ha, hl, hr⟩ := id r1
    refine ⟨a, dx, _, rfl, e1.sub _ _ ha, lookup_zip_none nm, ?_⟩
    refine h1 σ H1 G1 _ e1.sub (en.mono e1.le) (x.ext e1) fun ds ws B2 G2 H2 h2 e2 r2 => ?_
    show spD K pr (.ref a :: (ws ++ [])) H2 Q E
    rw [List.append_nil]
    exact ⟨G2, .ins C ns fs :: ds, B2, k, e, e2.sub, ⟨_, _, rfl, r1.mono e2.le, r2⟩, h2, (q.ext e1).ext e2, (x.ext e1).ext e2⟩
/-- the body runs -/
theorem run_body {N : List Str} {ts : TS} {G H : Hp} {ds : List D} {vs : List V} {Q : VK} (hs : Sub G H) (hr : RepL K G B ds vs) (hk : KOk K k Q G H B) (hx : XOk K E e G H B) (hN : startD N ds = ρ) (h : Ws K E e ts ρ B { nx := fun _ B' => k .non B', rt := k }) :
    ts { nx := fun _ H' => Q .non H', rt := Q } (L2.start N vs) H := by
  subst hN
  refine h _ H G _ hs ?_ hx ⟨fun ρ' σ' B' G' H' h1 e1 _ => hk _ _ _ _ _ h1 e1 rfl, hk, fun _ _ _ _ _ h => h.elim, fun _ _ _ _ _ h => h.elim⟩
  unfold startD L2.start
  rw [hr.length]
  exact EnvR.of_vals _ hr
/-! ### a class made -/
/-- an __init__'s promise: from the arguments, the fields -/
def spI (K : PySem.W.Frag) (C : Addr) (ns : List Str) (pr : List D → Int → (List D → Int → Prop) → EW → Prop) : Sp := fun vs H Q E => ∃ p dx ws G ds B k e, vs = .ref p :: ws ∧ H p = some (.ins C dx []) ∧ G p = none ∧ G dx = none ∧ dx ≠ p ∧ H dx = some (.own p) ∧
  Sub G H ∧ RepL K G B ds ws ∧ pr ds B k e ∧
  (∀ fs us B' G' H', k fs B' → Le G B G' B' → Sub G' H' → (∀ a o, H a = some o → G a = none → a ≠ p → (∀ ps, o ≠ .tbl ps) → H' a = some o ∧ G' a = none) → G' p = none → H' p = some (.ins C dx (ns.zip us)) → ns.length = us.length → RepL K G' B' fs us → Q .non H') ∧
  XOk K E e G H B
theorem RepL.non_mem {G : Hp} {p : Addr} (n : G p = none) : True := trivial
theorem we_make {C : Addr} {ns : List Str} {pi : List D → Int → (List D → Int → Prop) → EW → Prop} (h : Wa K E e t ρ B fun ds B1 => pi ds B1 (fun fs B2 => k (.ins C ns fs) B2) noE) : We K E e (tMake C (spI K C ns pi) [] E' t) ρ B k := fun σ H G Q s en x q =>
  h σ H G _ s en x fun ds vs B1 G1 H1 h1 e1 r1 => by
    show ∀ p dx, H1 p = none → H1 dx = none → dx ≠ p → _
    intro p dx np nd ne
    rw [List.append_nil]
    have gp : G1 p = none := by
      cases z : G1 p with
      | none => rfl
      | some u => rw [e1.sub _ _ z] at np; cases np
    have gd : G1 dx = none := by
      cases z : G1 dx with
      | none => rfl
      | some u => rw [e1.sub _ _ z] at nd; cases nd
    refine ⟨p, dx, vs, G1, ds, B1, _, noE, rfl, upd_same, gp, gd, ne, by rw [upd_ne ne, upd_same], fun a o z => ?_, r1, h1, fun fs us B2 G2 H2 hk le sub fr g2 h2 hl hr => ⟨rfl, ?_⟩, XOk.no⟩
    · have := e1.sub _ _ z
      rw [upd_ne (ne_of_none this np), upd_ne (ne_of_none this nd)]
      exact this
    · have e2 : Ext G H B (upd G2 p (.ins C dx (ns.zip us))) H2 B2 := by
        refine ⟨(e1.le.trans le).trans (Le.of_sub (fun a o z => by rw [upd_ne (ne_of_none z g2)]; exact z) (Int.le_refl _)), fun a o z => ?_, fun a o z n t => ?_⟩
        · by_cases hq : a = p
          · subst hq; rw [upd_same] at z; cases z; exact h2
          · rw [upd_ne hq] at z; exact sub _ _ z
        · obtain ⟨z1, z2⟩ := e1.fr a o z n t
          have hq : a ≠ p := ne_of_none z1 np
          obtain ⟨z3, z4⟩ := fr a o (by rw [upd_ne hq, upd_ne (ne_of_none z1 nd)]; exact z1) z2 hq t
          exact ⟨z3, by rw [upd_ne hq]; exact z4⟩
      exact q _ _ _ _ _ hk e2 ⟨p, dx, us, rfl, upd_same, hl, hr.mono (Le.of_sub (fun a o z => by rw [upd_ne (ne_of_none z g2)]; exact z) (Int.le_refl _))⟩
/-! ### data compared -/
mutual
def py : D → PyData
  | .non => .none
  | .bl b => .bool b
  | .int i => .int i
  | .str x => .str x
  | .tup ds => .tuple (pyL ds)
  | .lst ds => .list (pyL ds)
  | .ins _ _ _ => .none
  | .pen _ _ => .none
  | .scr _ => .none
  | .val _ => .none
  | .lam _ _ => .none
  | .at_ _ d => py d
  | .tb d => py d
  | .edk => .none
  | .dk _ _ => .none
def pyL : List D → List PyData
  | [] => []
  | d :: ds => py d :: pyL ds
end
mutual
def pyOk : D → Bool
  | .tup ds => pyOkL ds
  | .lst ds => pyOkL ds
  | .ins _ _ _ => false
  | .pen _ _ => false
  | .scr _ => false
  | .val _ => false
  | .lam _ _ => false
  | .at_ _ d => pyOk d
  | .tb d => pyOk d
  | .edk => false
  | .dk _ _ => false
  | _ => true
def pyOkL : List D → Bool
  | [] => true
  | d :: ds => pyOk d && pyOkL ds
end
mutual
theorem Rep.dp {G H : Hp} {B : Int} (s : Sub G H) : ∀ {d : D} {v : V}, Rep K G B d v → pyOk d = true → Dp K H v (py d)
  | .non, _, h, _ => by rw [show _ = _ from h]; exact .non
  | .bl _, _, h, _ => by rw [show _ = _ from h]; exact .bl _
  | .int _, _, h, _ => by rw [show _ = _ from h]; exact .int _
  | .str _, _, h, _ => by rw [show _ = _ from h]; exact .str _
  | .tup _, _, ⟨a, vs, e, h, hr⟩, o => by rw [e]; exact .tup ((Le.of_sub (B := B) (B' := B) s (Int.le_refl _)).seqT h) (RepL.dp s hr o)
  | .lst _, _, ⟨a, vs, e, h, hr⟩, o => by rw [e]; exact .lst (SqL.of (s _ _ h)) (RepL.dp s hr o)
  | .ins _ _ _, _, _, o => nomatch o
  | .pen _ _, _, _, o => nomatch o
  | .scr _, _, _, o => nomatch o
  | .val _, _, _, o => nomatch o
  | .lam _ _, _, _, o => nomatch o
  | .at_ _ d, _, ⟨_, h⟩, o => Rep.dp s (d := d) h o
  | .tb d, _, ⟨_, h⟩, o => Rep.dp s (d := d) h o
  | .edk, _, _, o => nomatch o
  | .dk _ _, _, _, o => nomatch o
theorem RepL.dp {G H : Hp} {B : Int} (s : Sub G H) : ∀ {ds : List D} {vs : List V}, RepL K G B ds vs → pyOkL ds = true → DpAll K H vs (pyL ds)
  | [], _, h, _ => by rw [show _ = _ from h]; exact .nil
  | d :: ds, _, ⟨v, r, e, h, hr⟩, o => by
    rw [e]
    have o' : (pyOk d && pyOkL ds) = true := o
    rw [Bool.and_eq_true] at o'
    exact .cons (Rep.dp s h o'.1) (RepL.dp s hr o'.2)
end
theorem ro_eqD {a b : D} (oa : pyOk a = true) (ob : pyOk b = true) (sa : SeqAt.shaped (py a) = true) (sb : SeqAt.shaped (py b) = true) (h : k (.bl (PyData.eqv (py a) (py b))) B) : Ro K E e (rEqD K) a b B k := fun x y H G Q s r1 r2 _ q =>
  ⟨_, _, Rep.dp s r1 oa, Rep.dp s r2 ob, sa, sb, q _ _ _ _ _ h (Ext.refl s) rfl⟩
theorem ro_neD {a b : D} (oa : pyOk a = true) (ob : pyOk b = true) (sa : SeqAt.shaped (py a) = true) (sb : SeqAt.shaped (py b) = true) (h : k (.bl (!PyData.eqv (py a) (py b))) B) : Ro K E e (rNeD K) a b B k := fun x y H G Q s r1 r2 _ q =>
  ⟨_, _, Rep.dp s r1 oa, Rep.dp s r2 ob, sa, sb, q _ _ _ _ _ h (Ext.refl s) rfl⟩
theorem ro_eqI {i j : Int} (h : k (.bl (decide (i = j))) B) : Ro K E e rEq (.int i) (.int j) B k := fun x y H G Q s r1 r2 _ q => by
  rw [show x = _ from r1, show y = _ from r2]
  have e1 : decide (V.int i = V.int j) = decide (i = j) := by
    by_cases z : i = j
    · subst z; simp
    · rw [decide_eq_false z, decide_eq_false fun w => z (V.int.inj w)]
  refine ⟨rfl, ?_⟩
  rw [e1]
  exact q _ _ _ _ _ h (Ext.refl s) rfl
theorem ro_neI {i j : Int} (h : k (.bl (!decide (i = j))) B) : Ro K E e rNe (.int i) (.int j) B k := fun x y H G Q s r1 r2 _ q => by
  rw [show x = _ from r1, show y = _ from r2]
  have e1 : decide (V.int i = V.int j) = decide (i = j) := by
    by_cases z : i = j
    · subst z; simp
    · rw [decide_eq_false z, decide_eq_false fun w => z (V.int.inj w)]
  refine ⟨rfl, ?_⟩
  rw [e1]
  exact q _ _ _ _ _ h (Ext.refl s) rfl
theorem ro_eqS {i j : Str} (h : k (.bl (decide (i = j))) B) : Ro K E e rEq (.str i) (.str j) B k := fun x y H G Q s r1 r2 _ q => by
  rw [show x = _ from r1, show y = _ from r2]
  have e1 : decide (V.str i = V.str j) = decide (i = j) := by
    by_cases z : i = j
    · subst z; simp
    · rw [decide_eq_false z, decide_eq_false fun w => z (V.str.inj w)]
  refine ⟨rfl, ?_⟩
  rw [e1]
  exact q _ _ _ _ _ h (Ext.refl s) rfl
/-! ### subscripts -/
theorem RepL.ixN {G : Hp} {ds : List D} {vs : List V} {i : Int} {d : D} (r : RepL K G B ds vs) (h : atI ds i = some d) : ∃ v, atI vs i = some v ∧ Rep K G B d v := by
  unfold atI at h ⊢
  rw [← r.length]
  cases z : L2.ixN ds.length i with
  | none => rw [z] at h; cases h
  | some j =>
    rw [z] at h
    exact r.get h
theorem ro_ixT {ds : List D} {i : Int} {d : D} (h : atI ds i = some d) (hk : k d B) : Ro K E e (rIxT K) (.tup ds) (.int i) B k := fun x y H G Q s r1 r2 _ q => by
  obtain ⟨a, vs, rfl, ha, hr⟩ := r1
  obtain ⟨v, h1, h2⟩ := hr.ixN h
  exact ⟨a, vs, i, v, rfl, r2, (Le.of_sub (B := B) (B' := B) s (Int.le_refl _)).seqT ha, h1, q _ _ _ _ _ hk (Ext.refl s) h2⟩
theorem ro_ixL {ds : List D} {i : Int} {d : D} (h : atI ds i = some d) (hk : k d B) : Ro K E e (rIxL K) (.lst ds) (.int i) B k := fun x y H G Q s r1 r2 _ q => by
  obtain ⟨a, vs, rfl, ha, hr⟩ := r1
  obtain ⟨v, h1, h2⟩ := hr.ixN h
  exact ⟨a, vs, i, v, rfl, r2, SqL.of (s _ _ ha), h1, q _ _ _ _ _ hk (Ext.refl s) h2⟩
theorem ro_ix_or {r : R2} {r' : R2} {a b : D} (h : Ro K E e r a b B k) : Ro K E e (fun x y H Q => r x y H Q ∨ r' x y H Q) a b B k := fun x y H G Q s r1 r2 xo q => .inl (h x y H G Q s r1 r2 xo q)
/-! ### built-ins -/
theorem we_cb {r : List V → Hp → VK → Prop} (h : Wa K E e t ρ B fun ds B1 => ∀ vs H G Q, Sub G H → RepL K G B1 ds vs → KOk K k Q G H B1 → r vs H Q) : We K E e (tCB r t) ρ B k := fun σ H G Q s en x q =>
  h σ H G _ s en x fun ds vs B1 G1 H1 h1 e1 r1 => h1 vs H1 G1 Q e1.sub r1 (q.ext e1)
theorem cb_fun1 {f : Int → Int} {r : List V → Hp → VK → Prop} (hr : ∀ i H Q, Q (.int (f i)) H → r [.int i] H Q) {ds : List D} (h : ∃ i, ds = [.int i] ∧ k (.int (f i)) B) : ∀ vs H G Q, Sub G H → RepL K G B ds vs → KOk K k Q G H B → r vs H Q := fun vs H G Q s r1 q => by
  obtain ⟨i, rfl, hk⟩ := h
  obtain ⟨v, _, rfl, rv, rfl⟩ := r1
  rw [show v = _ from rv]
  exact hr i H Q (q _ _ _ _ _ hk (Ext.refl s) rfl)
theorem cb_fun2 {f : Int → Int → Int} {r : List V → Hp → VK → Prop} (hr : ∀ i j H Q, Q (.int (f i j)) H → r [.int i, .int j] H Q) {ds : List D} (h : ∃ i j, ds = [.int i, .int j] ∧ k (.int (f i j)) B) : ∀ vs H G Q, Sub G H → RepL K G B ds vs → KOk K k Q G H B → r vs H Q := fun vs H G Q s r1 q => by
  obtain ⟨i, j, rfl, hk⟩ := h
  obtain ⟨v, _, rfl, rv, u, _, rfl, ru, rfl⟩ := r1
  rw [show v = _ from rv, show u = _ from ru]
  exact hr i j H Q (q _ _ _ _ _ hk (Ext.refl s) rfl)
theorem we_intof (h : Wa K E e t ρ B fun ds B1 => ∃ i, ds = [.int i] ∧ k (.int i) B1) : We K E e (tCB (fun xs H Q => (∃ i, xs = [.int i] ∧ Q (.int i) H) ∨ ∃ k, xs = [.bl k] ∧ Q (.int (if k then 1 else 0)) H) t) ρ B k :=
  we_cb fun σ H G Q s en x q => h σ H G Q s en x fun ds vs B1 G1 H1 h1 e1 r1 => q ds vs B1 G1 H1 (cb_fun1 (f := fun i => i) (fun i H Q q => .inl ⟨i, rfl, q⟩) h1) e1 r1
theorem we_abs (h : Wa K E e t ρ B fun ds B1 => ∃ i, ds = [.int i] ∧ k (.int (if i < 0 then -i else i)) B1) : We K E e (tCB (fun xs H Q => ∃ i, xs = [.int i] ∧ Q (.int (if i < 0 then -i else i)) H) t) ρ B k :=
  we_cb fun σ H G Q s en x q => h σ H G Q s en x fun ds vs B1 G1 H1 h1 e1 r1 => q ds vs B1 G1 H1 (cb_fun1 (f := fun i => if i < 0 then -i else i) (fun i H Q q => ⟨i, rfl, q⟩) h1) e1 r1
theorem we_gcd (h : Wa K E e t ρ B fun ds B1 => ∃ i j, ds = [.int i, .int j] ∧ k (.int ((Nat.gcd i.natAbs j.natAbs : Nat) : Int)) B1) : We K E e (tCB rGcd t) ρ B k :=
  we_cb fun σ H G Q s en x q => h σ H G Q s en x fun ds vs B1 G1 H1 h1 e1 r1 => q ds vs B1 G1 H1 (cb_fun2 (f := fun i j => ((Nat.gcd i.natAbs j.natAbs : Nat) : Int)) (fun i j H Q q => ⟨i, j, rfl, q⟩) h1) e1 r1
theorem we_lenL (h : Wa K E e t ρ B fun ds B1 => ∃ xs, ds = [.lst xs] ∧ k (.int xs.length) B1) : We K E e (tCB (fun xs H Q => ∃ p ys, xs = [.ref p] ∧ (SqL K H p ys ∨ SqT K H p ys) ∧ Q (.int ys.length) H) t) ρ B k :=
  we_cb fun σ H G Q s en x q => h σ H G Q s en x fun ds vs B1 G1 H1 ⟨xs, ed, h1⟩ e1 r1 => q ds vs B1 G1 H1 (fun ws H2 G2 Q2 s2 r2 q2 => by
    subst ed
    obtain ⟨v, _, rfl, ⟨a, us, rfl, ha, hr⟩, rfl⟩ := r2
    exact ⟨a, us, rfl, .inl (SqL.of (s2 _ _ ha)), by rw [← hr.length]; exact q2 _ _ _ _ _ h1 (Ext.refl s2) rfl⟩) e1 r1
theorem we_lenT (h : Wa K E e t ρ B fun ds B1 => ∃ xs, ds = [.tup xs] ∧ k (.int xs.length) B1) : We K E e (tCB (fun xs H Q => ∃ p ys, xs = [.ref p] ∧ (SqL K H p ys ∨ SqT K H p ys) ∧ Q (.int ys.length) H) t) ρ B k :=
  we_cb fun σ H G Q s en x q => h σ H G Q s en x fun ds vs B1 G1 H1 ⟨xs, ed, h1⟩ e1 r1 => q ds vs B1 G1 H1 (fun ws H2 G2 Q2 s2 r2 q2 => by
    subst ed
    obtain ⟨v, _, rfl, ⟨a, us, rfl, ha, hr⟩, rfl⟩ := r2
    exact ⟨a, us, rfl, .inr ((Le.of_sub (B := B1) (B' := B1) s2 (Int.le_refl _)).seqT ha), by rw [← hr.length]; exact q2 _ _ _ _ _ h1 (Ext.refl s2) rfl⟩) e1 r1
/-! ### loops -/
variable {wi : TI} {g : TG} {tbody : TS} {tl : TE}
theorem ws_for_list (h : We K E e tl ρ B fun d B1 => ∃ ds, d = .lst ds ∧ ∃ I : Nat → KE', I 0 ρ B1 ∧ (∀ i x ρ' B', ds[i]? = some x → I i ρ' B' → Wg K g x ρ' B' fun ρ2 B2 => Ws K E e tbody ρ2 B2 { nx := I (i + 1), rt := κ.rt, bk := κ.nx, ct := I (i + 1) }) ∧ ∀ ρ' B', I ds.length ρ' B' → κ.nx ρ' B') :
    Ws K E e (tFor (iList K tl) g tbody) ρ B κ := fun σ H G Dn s en x q =>
  h σ H G _ s en x fun d v B1 G1 H1 ⟨ds, ed, I, i0, hs, hd⟩ e1 r1 => by
    subst ed
    obtain ⟨a, vs, rfl, ha, hr⟩ := r1
    refine ⟨a, rfl, ⟨vs, SqL.of (e1.sub _ _ ha)⟩, ?_⟩
    refine for_list (xs := vs) (fun i σ' H' => ∃ ρ' B' G', I i ρ' B' ∧ Ext G1 H1 B1 G' H' B' ∧ EnvR K G' B' ρ' σ') ⟨ρ, B1, G1, i0, Ext.refl e1.sub, en.mono e1.le⟩ (fun i σ' H' _ ⟨_, _, G', _, e2, _⟩ => SqL.of (e2.sub _ _ (e2.le.keep _ _ ha nopen_lst))) ?_ ?_
    · rintro i y σ' H' hi ⟨ρ', B', G', hI, e2, en2⟩
      obtain ⟨dx, hdx, rx⟩ := hr.get' hi
      refine hs i dx ρ' B' hdx hI y σ' H' G' _ e2.sub en2 (rx.mono e2.le) fun ρ2 σ2 B2 G2 H2 h2 e3 en3 => ?_
      have eA := e1.trans (e2.trans e3)
      exact h2 σ2 H2 G2 _ e3.sub en3 (x.ext eA) ⟨fun ρ3 σ3 B3 G3 H3 h3 e4 en4 => ⟨ρ3, B3, G3, h3, (e2.trans e3).trans e4, en4⟩, q.rt.ext eA, q.nx.ext eA, fun ρ3 σ3 B3 G3 H3 h3 e4 en4 => ⟨ρ3, B3, G3, h3, (e2.trans e3).trans e4, en4⟩⟩
    · rintro σ' H' ⟨ρ', B', G', hI, e2, en2⟩
      rw [← hr.length] at hI
      exact q.nx _ _ _ _ _ (hd _ _ hI) (e1.trans e2) en2
theorem ws_for_tup (h : We K E e tl ρ B fun d B1 => ∃ ds, d = .tup ds ∧ ∃ I : Nat → KE', I 0 ρ B1 ∧ (∀ i x ρ' B', ds[i]? = some x → I i ρ' B' → Wg K g x ρ' B' fun ρ2 B2 => Ws K E e tbody ρ2 B2 { nx := I (i + 1), rt := κ.rt, bk := κ.nx, ct := I (i + 1) }) ∧ ∀ ρ' B', I ds.length ρ' B' → κ.nx ρ' B') :
    Ws K E e (tFor (iTup K tl) g tbody) ρ B κ := fun σ H G Dn s en x q =>
  h σ H G _ s en x fun d v B1 G1 H1 ⟨ds, ed, I, i0, hs, hd⟩ e1 r1 => by
    subst ed
    obtain ⟨a, vs, rfl, ha, hr⟩ := r1
    refine ⟨a, rfl, ⟨vs, (Le.of_sub (B := B) (B' := B) e1.sub (Int.le_refl _)).seqT ha⟩, ?_⟩
    refine for_tup (xs := vs) (fun i σ' H' => ∃ ρ' B' G', I i ρ' B' ∧ Ext G1 H1 B1 G' H' B' ∧ EnvR K G' B' ρ' σ') ⟨ρ, B1, G1, i0, Ext.refl e1.sub, en.mono e1.le⟩ (fun i σ' H' _ ⟨_, _, G', _, e2, _⟩ => (Le.of_sub (B := B) (B' := B) e2.sub (Int.le_refl _)).seqT (e2.le.seqT ha)) ?_ ?_
    · rintro i y σ' H' hi ⟨ρ', B', G', hI, e2, en2⟩
      obtain ⟨dx, hdx, rx⟩ := hr.get' hi
      refine hs i dx ρ' B' hdx hI y σ' H' G' _ e2.sub en2 (rx.mono e2.le) fun ρ2 σ2 B2 G2 H2 h2 e3 en3 => ?_
      have eA := e1.trans (e2.trans e3)
      exact h2 σ2 H2 G2 _ e3.sub en3 (x.ext eA) ⟨fun ρ3 σ3 B3 G3 H3 h3 e4 en4 => ⟨ρ3, B3, G3, h3, (e2.trans e3).trans e4, en4⟩, q.rt.ext eA, q.nx.ext eA, fun ρ3 σ3 B3 G3 H3 h3 e4 en4 => ⟨ρ3, B3, G3, h3, (e2.trans e3).trans e4, en4⟩⟩
    · rintro σ' H' ⟨ρ', B', G', hI, e2, en2⟩
      rw [← hr.length] at hI
      exact q.nx _ _ _ _ _ (hd _ _ hI) (e1.trans e2) en2
theorem for_range_D {n : Nat} {G H : Hp} {σ : L2.St} {Dn : Ends} (s : Sub G H) (en : EnvR K G B ρ σ) (x : XOk K E e G H B) (q : EndsOk K κ Dn G H B) (I : Nat → KE') (lo : Int) (i0 : I 0 ρ B)
    (hs : ∀ (i : Nat) ρ' B', i < n → I i ρ' B' → Wg K g (.int (lo + i)) ρ' B' fun ρ2 B2 => Ws K E e tbody ρ2 B2 { nx := I (i + 1), rt := κ.rt, bk := κ.nx, ct := I (i + 1) }) (hd : ∀ ρ' B', I n ρ' B' → κ.nx ρ' B') :
    ∃ W : Nat → Nat → L2.St → Hp → Prop, (∃ m, W 0 m σ H) ∧ ∀ i m σ H, W i m σ H →
      ((Itr lo n).stop i H ∧ Dn.nx σ H) ∨ ((Itr lo n).go i H ∧ ∃ N : L2.St → Hp → Prop, (∀ σ' H', N σ' H' → ∃ m', m' < m ∧ W (i + 1) m' σ' H') ∧ ∀ x H', (Itr lo n).yld i H x H' → g x σ H' fun σ2 H2 => tbody { Dn with nx := N, ct := N, bk := Dn.nx } σ2 H2) := by
  refine for_range (fun i σ' H' => ∃ ρ' B' G', I i ρ' B' ∧ Ext G H B G' H' B' ∧ EnvR K G' B' ρ' σ') ⟨ρ, B, G, i0, Ext.refl s, en⟩ ?_ ?_
  · rintro i σ' H' hi ⟨ρ', B', G', hI, e2, en2⟩
    refine hs i ρ' B' hi hI _ σ' H' G' _ e2.sub en2 rfl fun ρ2 σ2 B2 G2 H2 h2 e3 en3 => ?_
    have eA := e2.trans e3
    exact h2 σ2 H2 G2 _ e3.sub en3 (x.ext eA) ⟨fun ρ3 σ3 B3 G3 H3 h3 e4 en4 => ⟨ρ3, B3, G3, h3, (e2.trans e3).trans e4, en4⟩, q.rt.ext eA, q.nx.ext eA, fun ρ3 σ3 B3 G3 H3 h3 e4 en4 => ⟨ρ3, B3, G3, h3, (e2.trans e3).trans e4, en4⟩⟩
  · rintro σ' H' ⟨ρ', B', G', hI, e2, en2⟩
    exact q.nx _ _ _ _ _ (hd _ _ hI) e2 en2
theorem ws_for_range1 (h : Wa K E e t ρ B fun ds B1 => ∃ j : Int, ds = [.int j] ∧ -(2 ^ 62) ≤ j ∧ j < 2 ^ 62 ∧ ∃ I : Nat → KE', I 0 ρ B1 ∧ (∀ (i : Nat) ρ' B', i < j.toNat → I i ρ' B' → Wg K g (.int (0 + i)) ρ' B' fun ρ2 B2 => Ws K E e tbody ρ2 B2 { nx := I (i + 1), rt := κ.rt, bk := κ.nx, ct := I (i + 1) }) ∧ ∀ ρ' B', I j.toNat ρ' B' → κ.nx ρ' B') :
    Ws K E e (tFor (iRng1 t) g tbody) ρ B κ := fun σ H G Dn s en x q =>
  h σ H G _ s en x fun ds vs B1 G1 H1 ⟨j, ed, j0, j1, I, i0, hs, hd⟩ e1 r1 => by
    subst ed
    obtain ⟨v, _, rfl, rv, rfl⟩ := r1
    rw [show v = _ from rv]
    exact ⟨j, rfl, j0, j1, for_range_D e1.sub (en.mono e1.le) (x.ext e1) (q.ext e1) I 0 i0 hs hd⟩
/-! ### comprehensions -/
variable {tt : TT} {te : TE} {E1 : XK}
theorem wt_yes {kb : Bool → Int → Prop} (h : kb true B) : Wt K E e tYes ρ B kb := fun σ H G Q s en x q => q _ _ _ _ h (Ext.refl s)
/-- the state of a comprehension whose list stands at L -/
def LcOk (K : PySem.W.Frag) (I : List D → Int → Prop) (L : Addr) (G1 H1 : Hp) (B1 : Int) (H' : Hp) : Prop := ∃ out B' G' acc, I out B' ∧ Ext G1 H1 B1 G' H' B' ∧ G' L = none ∧ H' L = some (.lst acc) ∧ RepL K G' B' out acc
theorem lc_step {I : Nat → List D → Int → Prop} {L : Addr} {G1 H1 : Hp} {B1 : Int} {σ : L2.St} {sl i : Nat} {d : D} {v : V} {H' : Hp} (nL : H1 L = none) (sub1 : Sub G1 H1) (en : EnvR K G1 B1 ρ σ) (h : LcOk K (fun out B => out.length ≤ i ∧ I i out B) L G1 H1 B1 H') (hi : i < sizeLine) (rv : Rep K G1 B1 d v)
    (hs : ∀ out B', I i out B' → Wt K E1 noE tt ((ρ.set sl none).set sl (some d)) B' fun b B3 => (b = true → We K E1 noE te ((ρ.set sl none).set sl (some d)) B3 fun y B4 => I (i + 1) (out ++ [y]) B4) ∧ (b = false → I (i + 1) out B3)) :
    gName sl v (wipe σ [sl]) H' fun σ2 H2 => wipe σ2 [sl] = wipe σ [sl] ∧ tt σ2 H2 fun b H3 => if b = true then te σ2 H3 fun y H4 => ∃ acc, H4 L = some (.lst acc) ∧ acc.length < sizeLine ∧ LcOk K (fun out B => out.length ≤ i + 1 ∧ I (i + 1) out B) L G1 H1 B1 (upd H4 L (.lst (acc ++ [y]))) else LcOk K (fun out B => out.length ≤ i + 1 ∧ I (i + 1) out B) L G1 H1 B1 H3 := by
  obtain ⟨out, B', G', acc, ⟨hl, hI⟩, e2, gL, hL, hr⟩ := h
  refine ⟨?_, ?_⟩
  · show ((σ.set sl none).set sl (some v)).set sl none = σ.set sl none
    rw [List.set_set, List.set_set]
  · have en2 : EnvR K G' B' ((ρ.set sl none).set sl (some d)) ((σ.set sl none).set sl (some v)) := EnvR.set (rv.mono e2.le) sl (EnvR.wipe1 sl (en.mono e2.le))
    refine hs out B' hI _ H' G' _ e2.sub en2 XOk.no fun b B3 G3 H3 h3 e3 => ?_
    cases b with
    | true =>
      rw [if_pos rfl]
      refine h3.1 rfl _ H3 G3 _ e3.sub (en2.mono e3.le) XOk.no fun y w B4 G4 H4 h4 e4 r4 => ?_
      obtain ⟨z1, z2⟩ := (e3.trans e4).fr L _ hL gL (fun _ z => nomatch z)
      refine ⟨acc, z1, by rw [← hr.length]; omega, out ++ [y], B4, G4, acc ++ [w], ⟨by rw [List.length_append, List.length_singleton]; omega, h4⟩, ?_, z2, upd_same, (hr.mono (e3.trans e4).le).append ⟨w, [], rfl, r4, rfl⟩⟩
      have eA := e2.trans (e3.trans e4)
      refine ⟨eA.le, fun a o z => ?_, fun a o z n t => ?_⟩
      · have : a ≠ L := fun q => by rw [q, z2] at z; cases z
        rw [upd_ne this]; exact eA.sub _ _ z
      · have : a ≠ L := ne_of_none z nL
        rw [upd_ne this]
        exact eA.fr _ _ z n t
    | false =>
      rw [if_neg Bool.false_ne_true]
      obtain ⟨z1, z2⟩ := e3.fr L _ hL gL (fun _ z => nomatch z)
      exact ⟨out, B3, G3, acc, ⟨Nat.le_succ_of_le hl, h3.2 rfl⟩, e2.trans e3, z2, z1, hr.mono e3.le⟩
theorem lc_end {I : List D → Int → Prop} {L : Addr} {G H G1 H1 : Hp} {B1 : Int} {Q : VK} {H' : Hp} (e1 : Ext G H B G1 H1 B1) (nL : H1 L = none) (h : LcOk K I L G1 H1 B1 H') (hd : ∀ out B', I out B' → k (.lst out) B') (q : KOk K k Q G H B) : Q (.ref L) H' := by
  obtain ⟨out, B', G', acc, hI, e2, gL, hL, hr⟩ := h
  have le : Le G' B' (upd G' L (.lst acc)) B' := Le.of_sub (fun a o z => by rw [upd_ne (ne_of_none z gL)]; exact z) (Int.le_refl _)
  refine q (.lst out) _ B' (upd G' L (.lst acc)) H' (hd _ _ hI) (e1.trans ⟨e2.le.trans le, fun a o z => ?_, fun a o z n t => ?_⟩) ⟨L, acc, rfl, upd_same, hr.mono le⟩
  · by_cases w : a = L
    · subst w; rw [upd_same] at z; cases z; exact hL
    · rw [upd_ne w] at z; exact e2.sub _ _ z
  · have w : a ≠ L := ne_of_none z nL
    rw [upd_ne w]
    exact e2.fr _ _ z n t
theorem lc_start {I : List D → Int → Prop} {L : Addr} {G1 H1 : Hp} {B1 : Int} (s : Sub G1 H1) (nL : H1 L = none) (h : I [] B1) : LcOk K I L G1 H1 B1 (upd H1 L (.lst [])) := by
  have g : G1 L = none := by
    cases z : G1 L with
    | none => rfl
    | some u => rw [s _ _ z] at nL; cases nL
  exact ⟨[], B1, G1, [], h, Ext.hid s nL, g, upd_same, rfl⟩
theorem LcOk.kept {I : List D → Int → Prop} {L : Addr} {G1 H1 : Hp} {B1 : Int} {H' : Hp} {a : Addr} {o : HO} (h : LcOk K I L G1 H1 B1 H') (ha : G1 a = some o) (n : ¬ IsPen o) : H' a = some o := by
  obtain ⟨out, B', G', acc, hI, e2, gL, hL, hr⟩ := h
  exact e2.sub _ _ (e2.le.keep _ _ ha n)
theorem we_lc_list {sl : Nat} (h : We K E e tl ρ B fun d B1 => ∃ ds, d = .lst ds ∧ ds.length < sizeLine ∧ ∃ I : Nat → List D → Int → Prop, I 0 [] B1 ∧
    (∀ i x out B', ds[i]? = some x → I i out B' → Wt K E1 noE tt ((ρ.set sl none).set sl (some x)) B' fun b B3 => (b = true → We K E1 noE te ((ρ.set sl none).set sl (some x)) B3 fun y B4 => I (i + 1) (out ++ [y]) B4) ∧ (b = false → I (i + 1) out B3)) ∧
    ∀ out B', out.length ≤ ds.length → I ds.length out B' → k (.lst out) B') : We K E e (tLc (iList K tl) (gName sl) tt te [sl]) ρ B k := fun σ H G Q s en x q =>
  h σ H G _ s en x fun d v B1 G1 H1 ⟨ds, ed, dl, I, i0, hs, hd⟩ e1 r1 => by
    subst ed
    obtain ⟨a, vs, rfl, ha, hr⟩ := r1
    refine ⟨a, rfl, ⟨vs, SqL.of (e1.sub _ _ ha)⟩, fun L nL => ?_⟩
    refine lc_list (xs := vs) (fun i H' => LcOk K (fun out B => out.length ≤ i ∧ I i out B) L G1 H1 B1 H') (lc_start e1.sub nL ⟨Nat.le_refl _, i0⟩) (fun i H' _ z => SqL.of (z.kept ha nopen_lst)) ?_ ?_
    · intro i y H' hi hz
      obtain ⟨dx, hdx, rx⟩ := hr.get' hi
      have hlt : i < ds.length := (List.getElem?_eq_some_iff.mp hdx).1
      exact lc_step nL e1.sub (en.mono e1.le) hz (by omega) rx (fun out B' hI => hs i dx out B' hdx hI)
    · intro H' hz
      refine lc_end e1 nL hz (fun out B' hI => ?_) q
      rw [← hr.length] at hI
      exact hd out B' hI.1 hI.2
theorem we_lc_tup {sl : Nat} (h : We K E e tl ρ B fun d B1 => ∃ ds, d = .tup ds ∧ ds.length < sizeLine ∧ ∃ I : Nat → List D → Int → Prop, I 0 [] B1 ∧
    (∀ i x out B', ds[i]? = some x → I i out B' → Wt K E1 noE tt ((ρ.set sl none).set sl (some x)) B' fun b B3 => (b = true → We K E1 noE te ((ρ.set sl none).set sl (some x)) B3 fun y B4 => I (i + 1) (out ++ [y]) B4) ∧ (b = false → I (i + 1) out B3)) ∧
    ∀ out B', out.length ≤ ds.length → I ds.length out B' → k (.lst out) B') : We K E e (tLc (iTup K tl) (gName sl) tt te [sl]) ρ B k := fun σ H G Q s en x q =>
  h σ H G _ s en x fun d v B1 G1 H1 ⟨ds, ed, dl, I, i0, hs, hd⟩ e1 r1 => by
    subst ed
    obtain ⟨a, vs, rfl, ha, hr⟩ := r1
    refine ⟨a, rfl, ⟨vs, (Le.of_sub (B := B) (B' := B) e1.sub (Int.le_refl _)).seqT ha⟩, fun L nL => ?_⟩
    refine lc_tup (xs := vs) (fun i H' => LcOk K (fun out B => out.length ≤ i ∧ I i out B) L G1 H1 B1 H') (lc_start e1.sub nL ⟨Nat.le_refl _, i0⟩) (fun i H' _ z => by
      obtain ⟨out, B', G', acc, hI, e2, _⟩ := z
      exact (Le.of_sub (B := B) (B' := B) e2.sub (Int.le_refl _)).seqT (e2.le.seqT ha)) ?_ ?_
    · intro i y H' hi hz
      obtain ⟨dx, hdx, rx⟩ := hr.get' hi
      have hlt : i < ds.length := (List.getElem?_eq_some_iff.mp hdx).1
      exact lc_step nL e1.sub (en.mono e1.le) hz (by omega) rx (fun out B' hI => hs i dx out B' hdx hI)
    · intro H' hz
      refine lc_end e1 nL hz (fun out B' hI => ?_) q
      rw [← hr.length] at hI
      exact hd out B' hI.1 hI.2
end
end AW

set_option linter.all false
set_option maxRecDepth 100000
set_option maxHeartbeats 4000000
namespace AW
open PySem PySem.Spec PyProof.Rows L2
variable [Tbs]
/-! more operators, by values -/
def CDivG (_ j : Int) : Prop := j ≠ 0 ∧ j.natAbs.log2 < 9000
section
variable {X : Cx}
/-- // by any number of up to 9000 bits -/
theorem op_fdivG : OpR X (binaryOp .FloorDiv) (rI CDivG fun i j => .int (i.fdiv j)) := opI fun _ _ _ _ _ _ _ hc q => floordiv_int hc.1 q (.inl (PyProof.noPylong_of_log2 hc.2))
end
section
variable {K : PySem.W.Frag} {E E' : XK} {e : EW} {ρ : List (Option D)} {B : Int} {k : KD} {κ : KS} {ta tb : TE} {t : TA} {pr : Pr}
theorem we_call0 (h : pr [] B k noE) : We K E e (tCall (spD K pr) [] E' tNil) ρ B k := we_call (wa_nil h)
theorem we_meth0 {C : Addr} {m : Str} (h : We K E e ta ρ B fun d B1 => ∃ ns fs, d = .ins C ns fs ∧ (∀ n ∈ ns, (m == n) = false) ∧ pr [d] B1 k noE) : We K E e (tMeth C m (spD K pr) [] E' ta tNil) ρ B k :=
  we_meth (h.imp fun d B1 ⟨ns, fs, ed, nm, h1⟩ => ⟨ns, fs, ed, nm, wa_nil h1⟩)
theorem we_max2 (h : Wa K E e t ρ B fun ds B1 => ∃ i j, ds = [.int i, .int j] ∧ k (.int (if j > i then j else i)) B1) : We K E e (tCB (fun xs H Q => ∃ i j, xs = [.int i, .int j] ∧ Q (.int (if j > i then j else i)) H) t) ρ B k :=
  we_cb fun σ H G Q s en x q => h σ H G Q s en x fun ds vs B1 G1 H1 h1 e1 r1 => q ds vs B1 G1 H1 (cb_fun2 (f := fun i j => if j > i then j else i) (fun i j H Q q => ⟨i, j, rfl, q⟩) h1) e1 r1
theorem we_min2 (h : Wa K E e t ρ B fun ds B1 => ∃ i j, ds = [.int i, .int j] ∧ k (.int (if j < i then j else i)) B1) : We K E e (tCB (fun xs H Q => ∃ i j, xs = [.int i, .int j] ∧ Q (.int (if j < i then j else i)) H) t) ρ B k :=
  we_cb fun σ H G Q s en x q => h σ H G Q s en x fun ds vs B1 G1 H1 h1 e1 r1 => q ds vs B1 G1 H1 (cb_fun2 (f := fun i j => if j < i then j else i) (fun i j H Q q => ⟨i, j, rfl, q⟩) h1) e1 r1
/-- a statement, what holds behind it, the rest -/
theorem ws_cut {ts us : TS} (J : KE') (h1 : Ws K E e ts ρ B { κ with nx := J }) (h2 : ∀ ρ' B', J ρ' B' → Ws K E e us ρ' B' κ) : Ws K E e (tSeq ts us) ρ B κ :=
  ws_seq fun σ H G Dn s en x q => h1 σ H G Dn s en x ⟨fun ρ' σ' B' G' H' z => q.nx ρ' σ' B' G' H' (h2 ρ' B' z), q.rt, q.bk, q.ct⟩
/-- list + list -/
theorem ro_catL {xs ys : List D} (hl : xs.length + ys.length ≤ sizeLine) (h : k (.lst (xs ++ ys)) B) : Ro K E e rCat (.lst xs) (.lst ys) B k := fun x y H G Q s r1 r2 _ q => by
  obtain ⟨a, vs, rfl, ha, hr⟩ := r1
  obtain ⟨b, ws, rfl, hb, hw⟩ := r2
  exact ⟨a, b, vs, ws, rfl, rfl, s _ _ ha, s _ _ hb, by rw [← hr.length, ← hw.length]; exact hl, fun p np =>
    q _ _ _ _ _ h (Ext.new s np) ⟨p, _, rfl, upd_same, (hr.append hw).mono (Ext.new (B := B) s np).le⟩⟩
end
mutual
/-- data without a dict is equal to itself -/
theorem eqv_self : ∀ d : D, PyData.eqv (py d) (py d) = true
  | .non => rfl
  | .bl b => by cases b <;> rfl
  | .int i => by simp [py, PyData.eqv]
  | .str x => by simp [py, PyData.eqv]
  | .tup ds => by show PyData.eqvAll (pyL ds) (pyL ds) = true; exact eqvAll_self ds
  | .lst ds => by show PyData.eqvAll (pyL ds) (pyL ds) = true; exact eqvAll_self ds
  | .ins _ _ _ => rfl
  | .pen _ _ => rfl
  | .scr _ => rfl
  | .val _ => rfl
  | .lam _ _ => rfl
  | .at_ _ d => eqv_self d
  | .tb d => eqv_self d
  | .edk => rfl
  | .dk _ _ => rfl
theorem eqvAll_self : ∀ ds : List D, PyData.eqvAll (pyL ds) (pyL ds) = true
  | [] => rfl
  | d :: ds => by
    show (PyData.eqv (py d) (py d) && PyData.eqvAll (pyL ds) (pyL ds)) = true
    rw [eqv_self d, eqvAll_self ds]
    rfl
end
abbrev t3 (x y a : Int) : D := .tup [.int x, .int y, .int a]
abbrev t2 (x y : Int) : D := .tup [.int x, .int y]
theorem eqv_t3 {x y a x' y' a' : Int} : PyData.eqv (py (t3 x y a)) (py (t3 x' y' a')) = decide (x = x' ∧ y = y' ∧ a = a') := by
  by_cases h : x = x' ∧ y = y' ∧ a = a'
  · obtain ⟨rfl, rfl, rfl⟩ := h
    rw [eqv_self]; simp
  · rw [decide_eq_false h, Bool.eq_false_iff]
    intro z
    simp [py, pyL, PyData.eqv, PyData.eqvAll] at z
    exact h ⟨z.1, z.2.1, z.2.2⟩
theorem shaped_of {d : D} (h1 : (py d).canLay0 = true) (h2 : decide ((py d).depth ≤ 64) = true) : SeqAt.shaped (py d) = true := by
  unfold SeqAt.shaped
  rw [h1, h2]; rfl
end AW

set_option linter.all false
set_option maxRecDepth 100000
set_option maxHeartbeats 4000000
namespace AW
open PySem PySem.Spec PyProof.Rows L2
variable [Tbs]
section
variable {K : PySem.W.Frag} {E E1 : XK} {e : EW} {ρ : List (Option D)} {B : Int} {k : KD} {tl te : TE} {sl : Nat}
theorem map_step {f : D → D} {ds : List D} {i : Nat} {x : D} (h : ds[i]? = some x) : (ds.map f).take i ++ [f x] = (ds.map f).take (i + 1) := by
  have hm : (ds.map f)[i]? = some (f x) := by rw [List.getElem?_map, h]; rfl
  rw [List.take_add_one, hm]
  rfl
/-- [f(x) for x in xs]: each element told, the pens left -/
theorem we_lc_mapT {f : D → D} (h : We K E e tl ρ B fun d B1 => ∃ ds, d = .tup ds ∧ ds.length < sizeLine ∧ (∀ x ∈ ds, ∀ k' : KD, k' (f x) B1 → We K E1 noE te ((ρ.set sl none).set sl (some x)) B1 k') ∧ k (.lst (ds.map f)) B1) :
    We K E e (tLc (iTup K tl) (gName sl) tYes te [sl]) ρ B k := we_lc_tup (E1 := E1) (h.imp fun d B1 ⟨ds, ed, hl, hs, hk⟩ => ⟨ds, ed, hl, fun i out B' => out = (ds.map f).take i ∧ B' = B1, ⟨rfl, rfl⟩, fun i x out B' hi ⟨eo, eB⟩ => wt_yes ⟨fun _ => by
      subst eB
      exact hs x (List.mem_of_getElem? hi) _ ⟨by rw [eo]; exact map_step hi, rfl⟩, fun h => nomatch h⟩, fun out B' _ ⟨eo, eB⟩ => by
      rw [eo, eB, List.take_of_length_le (by rw [List.length_map]; exact Nat.le_refl _)]
      exact hk⟩)
theorem we_lc_mapL {f : D → D} (h : We K E e tl ρ B fun d B1 => ∃ ds, d = .lst ds ∧ ds.length < sizeLine ∧ (∀ x ∈ ds, ∀ k' : KD, k' (f x) B1 → We K E1 noE te ((ρ.set sl none).set sl (some x)) B1 k') ∧ k (.lst (ds.map f)) B1) :
    We K E e (tLc (iList K tl) (gName sl) tYes te [sl]) ρ B k := we_lc_list (E1 := E1) (h.imp fun d B1 ⟨ds, ed, hl, hs, hk⟩ => ⟨ds, ed, hl, fun i out B' => out = (ds.map f).take i ∧ B' = B1, ⟨rfl, rfl⟩, fun i x out B' hi ⟨eo, eB⟩ => wt_yes ⟨fun _ => by
      subst eB
      exact hs x (List.mem_of_getElem? hi) _ ⟨by rw [eo]; exact map_step hi, rfl⟩, fun h => nomatch h⟩, fun out B' _ ⟨eo, eB⟩ => by
      rw [eo, eB, List.take_of_length_le (by rw [List.length_map]; exact Nat.le_refl _)]
      exact hk⟩)
end
/-- what the statement asks of the law -/
def spLaw (K : PySem.W.Frag) : Sp := fun vs H Q E => ∃ (a : Addr) (ns : List Int), vs = [.ref a] ∧ SqL K H a (ns.map V.int) ∧ ns.length ≤ 63 ∧ LamX.Tabs Tbs.T H ∧ ∀ H', Q (.bl true) H'
open Classical in
theorem spLaw_imp {K : PySem.W.Frag} {pr : Pr} (h : ∀ (ns : List Int) (k : KD), ns.length ≤ 63 → (∀ B', k (.bl true) B') → pr [.scr ns] 0 k noE) : ∀ vs H Q E, spLaw K vs H Q E → spD K pr vs H Q E := fun vs H Q E ⟨a, ns, ev, hS, hl, hT, kq⟩ => by
  subst ev
  let G : Hp := fun b => if b = a ∨ (∃ ps, H b = some (.tbl ps)) ∨ (∃ q, H b = some (LamX.CodeO b q)) then H b else none
  have gt : ∀ b, (b = a ∨ (∃ ps, H b = some (.tbl ps)) ∨ (∃ q, H b = some (LamX.CodeO b q))) → G b = H b := fun b h => if_pos h
  have ga : G a = H a := gt a (.inl rfl)
  refine ⟨G, [.scr ns], 0, fun d _ => d = .bl true, noE, fun b o z => ?_, ⟨_, [], rfl, ⟨fun p hp => ?_, a, rfl, ?_⟩, rfl⟩, h ns _ hl (fun _ => rfl), fun d v B' G' H' hd _ hr => ?_, XOk.no⟩
  · by_cases hb : b = a ∨ (∃ ps, H b = some (.tbl ps)) ∨ (∃ q, H b = some (LamX.CodeO b q))
    · rw [gt b hb] at z
      exact z
    · have z2 : G b = none := if_neg hb
      rw [z2] at z
      cases z
  · obtain ⟨ps, h1, h2, h3⟩ := hT p hp
    refine ⟨ps, by rw [gt _ (.inr (.inl ⟨ps, h1⟩))]; exact h1, h2, fun pos cv hc => ?_⟩
    obtain ⟨c, e1, e2⟩ := h3 pos cv hc
    exact ⟨c, e1, by rw [gt _ (.inr (.inr ⟨_, e2⟩))]; exact e2⟩
  · rcases hS with (hS | ⟨o, hS⟩) | hS
    · exact .inl (.inl (ga.trans hS))
    · exact .inl (.inr ⟨o, ga.trans hS⟩)
    · exact .inr hS
  · subst hd
    rw [show v = _ from hr]
    exact kq H'
end AW

set_option linter.all false
set_option maxRecDepth 100000
set_option maxHeartbeats 4000000
namespace AW
open PySem PySem.Spec PyProof.Rows L2 LamX
variable [Tbs]
/-! ### lambdas that are kept, over data -/
def tabD : D → Bool
  | .pen _ _ => true
  | .scr _ => true
  | .tb _ => true
  | _ => false
section
variable {K : PySem.W.Frag} {E E' : XK} {e : EW} {ρ : List (Option D)} {B : Int} {k : KD} {κ : KS}
theorem Rep.tabs {G : Hp} : ∀ {d : D} {v : V}, Rep K G B d v → tabD d = true → Tabs Tbs.T G
  | .non, _, _, h => nomatch h
  | .bl _, _, _, h => nomatch h
  | .int _, _, _, h => nomatch h
  | .str _, _, _, h => nomatch h
  | .tup _, _, _, h => nomatch h
  | .lst _, _, _, h => nomatch h
  | .ins _ _ _, _, _, h => nomatch h
  | .val _, _, _, h => nomatch h
  | .lam _ _, _, _, h => nomatch h
  | .at_ _ _, _, _, h => nomatch h
  | .tb _, _, h, _ => h.1
  | .edk, _, _, h => nomatch h
  | .dk _ _, _, _, h => nomatch h
  | .pen _ _, _, h, _ => h.1
  | .scr _, _, h, _ => h.1
theorem grown_ext {P : Addr} {q : Str} {d f : Addr} {G H H1 : Hp} {o : HO} (s : Sub G H) (tG : Tabs Tbs.T G) (hm : (P, q) ∈ Tbs.T) (hu : ∀ p ∈ Tbs.T, p.1 = P → p.2 = q) (gr : Grown P q d H H1) (nf : H1 f = none) :
    ∃ G', Ext G H B (upd G' f o) (upd H1 f o) B ∧ upd G' f o d = some (LamX.CodeO d q) := by
  obtain ⟨psG, gP, gt, ga⟩ := tG _ hm
  have hP := s _ _ gP
  have gnone : ∀ a, H a = none → G a = none := fun a e => by
    cases z : G a with
    | none => rfl
    | some o => rw [s _ _ z] at e; cases e
  rcases gr with ⟨ps, pos, e1, e2, e3⟩ | ⟨ps, pos, e1, e2, e3⟩
  · subst e3
    rw [hP] at e1
    cases e1
    obtain ⟨c, ec, gc⟩ := ga pos _ e2
    cases ec
    exact ⟨G, Ext.new (B := B) (o := o) s nf, by rw [upd_ne (ne_of_none gc (gnone _ nf))]; exact gc⟩
  · subst e3
    rw [hP] at e1
    cases e1
    have nd := gnone _ e2
    have hdf : d ≠ f := fun z => by subst z; rw [upd_same] at nf; cases nf
    have t2 := tabs_grow (pos := pos) tG hm hu gP nd
    have st : Ext G H B (upd (upd G P (.tbl (psG ++ #[rawInt pos.line, rawInt pos.col, .ref d]))) d (CodeO d q)) (upd (upd H P (.tbl (psG ++ #[rawInt pos.line, rawInt pos.col, .ref d]))) d (CodeO d q)) B := by
      have at_ : ∀ a o, G a = some o → (∀ ps, o ≠ .tbl ps) → upd (upd G P (.tbl (psG ++ #[rawInt pos.line, rawInt pos.col, .ref d]))) d (CodeO d q) a = some o := fun a o z n => by
        rw [upd_ne (ne_of_none z nd), upd_ne (fun w => by subst w; rw [gP] at z; exact n _ (Option.some.inj z).symm)]
        exact z
      refine ⟨⟨Int.le_refl _, fun a o z n => at_ a o z fun ps w => n (.inr ⟨ps, w⟩), fun a k l c z r w => ⟨z, r, at_ a _ w (fun _ w => nomatch w), fun x y => ⟨x, y⟩⟩, fun _ => t2⟩, fun a o z => ?_, fun a o z n nt => ?_⟩
      · by_cases h1 : a = d
        · subst h1; rw [upd_same] at z ⊢; exact z
        · rw [upd_ne h1] at z ⊢
          by_cases h2 : a = P
          · subst h2; rw [upd_same] at z ⊢; exact z
          · rw [upd_ne h2] at z ⊢; exact s _ _ z
      · have h1 : a ≠ d := ne_of_none z e2
        have h2 : a ≠ P := fun w => by subst w; rw [hP] at z; exact nt _ (Option.some.inj z).symm
        rw [upd_ne h1, upd_ne h2, upd_ne h1, upd_ne h2]
        exact ⟨z, n⟩
    exact ⟨_, st.trans (Ext.new (B := B) (o := o) st.sub nf), by rw [upd_ne hdf, upd_same]⟩
theorem we_lamval {i : Nat} {d0 : D} {P : Addr} {q : Str} {mk : Addr → Addr → HO} (hi : ρ[i]? = some (some d0)) (ht : tabD d0 = true) (hm : (P, q) ∈ Tbs.T) (hu : ∀ p ∈ Tbs.T, p.1 = P → p.2 = q) (nm : ∀ f d, ¬ IsPen (mk f d))
    (hk : k (.lam q mk) B) : We K E e (tLamV Tbs.T P q mk) ρ B k := fun σ H G Q s en x kq => by
  obtain ⟨v0, _, r0⟩ := en.get hi
  have tG : Tabs Tbs.T G := r0.tabs ht
  refine ⟨tG.ext s, fun f d H1 gr nf => ?_⟩
  obtain ⟨G', ex, kd⟩ := grown_ext (B := B) (o := mk f d) s tG hm hu gr nf
  exact kq _ _ _ _ _ hk ex ⟨f, d, rfl, upd_same, kd, nm f d⟩
/-- what is made of a kept lambda's call: tl, its reading over data; eR and kR, what comes of it -/
structure TTok (K : PySem.W.Frag) (TT : (XK → Hp → VK → Prop) → Hp → VK → Prop) (eR : KD → EW) (kR : KD → KD) : Prop where
  go : ∀ (tl : XK → Hp → VK → Prop) (k : KD) (G H : Hp) (B : Int) (Q : VK), Sub G H → KOk K k Q G H B → (∀ Ech Q', XOk K Ech (eR k) G H B → KOk K (kR k) Q' G H B → tl Ech H Q') → TT tl H Q
theorem we_callK {j : Nat} {q : Str} {mk : Addr → Addr → HO} {TT : (XK → Hp → VK → Prop) → Hp → VK → Prop} {t : XK → TE} {eR : KD → EW} {kR : KD → KD} (tt : TTok K TT eR kR) (hj : ρ[j]? = some (some (.lam q mk)))
    (h : ∀ Ech, We K Ech (eR k) (t Ech) ρ B (kR k)) : We K E e (tCallK j q mk TT t) ρ B k := fun σ H G Q s en x kq => by
  obtain ⟨v, h1, f, d, ev, g1, g2, _⟩ := en.get hj
  subst ev
  exact ⟨f, d, h1, s _ _ g1, s _ _ g2, tt.go _ k G H B Q s kq fun Ech Q' xo ko => h Ech σ H G Q' s en xo ko⟩
theorem we_callB {j : Nat} {vs : List Nat} {q : Str} {mk : Addr → Addr → HO} {TT : (XK → Hp → VK → Prop) → Hp → VK → Prop} {t : XK → TE} {eR : KD → EW} {kR : KD → KD} (tt : TTok K TT eR kR) (hj : ρ[j]? = some (some (.lam q mk)))
    (h : ∀ Ech, We K Ech (eR k) (t Ech) (wipeD ρ vs) B (kR k)) : We K E e (tCallB j vs q mk TT t) ρ B k := fun σ H G Q s en x kq => by
  obtain ⟨v, h1, f, d, ev, g1, g2, _⟩ := en.get hj
  subst ev
  exact ⟨f, d, h1, s _ _ g1, s _ _ g2, tt.go _ k G H B Q s kq fun Ech Q' xo ko => h Ech _ H G Q' s (en.wipe vs) xo ko⟩
/-- a lambda made and handed on at once -/
theorem we_lamarg {i : Nat} {d0 : D} {P : Addr} {q : Str} {mk : Addr → Addr → HO} {TT : (XK → Hp → VK → Prop) → Hp → VK → Prop} {t : XK → TE} {eR : KD → EW} {kR : KD → KD} (tt : TTok K TT eR kR) (hi : ρ[i]? = some (some d0)) (ht : tabD d0 = true) (hm : (P, q) ∈ Tbs.T) (hu : ∀ p ∈ Tbs.T, p.1 = P → p.2 = q)
    (h : ∀ Ech, We K Ech (eR k) (t Ech) ρ B (kR k)) : We K E e (tLamA Tbs.T P q mk TT t) ρ B k := fun σ H G Q s en x kq => by
  obtain ⟨v0, _, r0⟩ := en.get hi
  have tG : Tabs Tbs.T G := r0.tabs ht
  refine ⟨tG.ext s, fun f d H1 gr nf => ?_⟩
  obtain ⟨G', ex, kd⟩ := grown_ext (B := B) (o := mk f d) s tG hm hu gr nf
  exact tt.go _ k _ _ B Q ex.sub (kq.ext ex) fun Ech Q' xo ko => h Ech σ _ _ Q' ex.sub (en.mono ex.le) xo ko
end
end AW

set_option linter.all false
set_option maxRecDepth 100000
set_option maxHeartbeats 4000000
namespace AW
open PySem PySem.Spec PyProof.Rows L2
variable [Tbs]
section
variable {K : PySem.W.Frag} {E E' : XK} {e : EW} {ρ : List (Option D)} {B : Int} {k : KD} {κ : KS} {ta tb : TE} {t : TA} {pr : Pr}
/-- all of them -/
theorem we_all (h : Wa K E e t ρ B fun ds B1 => ∃ bs : List Bool, ds = [.lst (bs.map D.bl)] ∧ k (.bl (bs.all id)) B1) : We K E e (tCB (rAll K) t) ρ B k :=
  we_cb fun σ H G Q s en x q => h σ H G Q s en x fun ds vs B1 G1 H1 ⟨bs, ed, hk⟩ e1 r1 => q ds vs B1 G1 H1 (fun ws H2 G2 Q2 s2 r2 q2 => by
    subst ed
    obtain ⟨v, _, rfl, ⟨a, us, rfl, ha, hr⟩, rfl⟩ := r2
    have z : ∀ (bs : List Bool) (us : List V), RepL K G2 B1 (bs.map D.bl) us → us = bs.map V.bl := by
      intro bs
      induction bs with
      | nil => intro us h; exact h
      | cons b r ih =>
        intro us h
        obtain ⟨v, w, rfl, h1, h2⟩ := h
        rw [show v = _ from h1, ih _ h2]
        rfl
    refine ⟨a, bs, rfl, ?_, q2 _ _ _ _ _ hk (Ext.refl s2) rfl⟩
    rw [← z bs us hr]
    exact SqL.of (s2 _ _ ha)) e1 r1
/-- a value with an address keeps it -/
def refD : D → Bool
  | .tup _ => true
  | .lst _ => true
  | .ins _ _ _ => true
  | .edk => true
  | _ => false
theorem Rep.refD {G : Hp} : ∀ {d : D} {v : V}, Rep K G B d v → AW.refD d = true → ∃ a, v = .ref a
  | .tup _, _, ⟨a, vs, e, _⟩, _ => ⟨a, e⟩
  | .lst _, _, ⟨a, vs, e, _⟩, _ => ⟨a, e⟩
  | .ins _ _ _, _, ⟨a, _, vs, e, _⟩, _ => ⟨a, e⟩
  | .non, _, _, o => nomatch o
  | .bl _, _, _, o => nomatch o
  | .int _, _, _, o => nomatch o
  | .str _, _, _, o => nomatch o
  | .pen _ _, _, _, o => nomatch o
  | .scr _, _, _, o => nomatch o
  | .val _, _, _, o => nomatch o
  | .lam _ _, _, _, o => nomatch o
  | .at_ _ _, _, _, o => nomatch o
  | .tb _, _, _, o => nomatch o
  | .edk, _, ⟨a, e, _⟩, _ => ⟨a, e⟩
  | .dk _ _, _, _, o => nomatch o
def seen (d d' : D) : Prop := d' = d ∧ AW.refD d = false ∨ (∃ a, d' = .at_ (.ref a) d) ∧ AW.refD d = true
theorem ws_see {i : Nat} (h : We K E e ta ρ B fun d B1 => ∀ d', seen d d' → κ.nx (ρ.set i (some d')) B1) : Ws K E e (tAsg ta (gName i)) ρ B κ := fun σ H G Dn s en x q =>
  h σ H G _ s en x fun d v B1 G1 H1 h1 e1 r1 => by
    cases z : AW.refD d with
    | false => exact q.nx _ _ _ _ _ (h1 d (.inl ⟨rfl, z⟩)) e1 (EnvR.set r1 i (en.mono e1.le))
    | true =>
      obtain ⟨a, rfl⟩ := r1.refD z
      exact q.nx _ _ _ _ _ (h1 _ (.inr ⟨⟨a, rfl⟩, z⟩)) e1 (EnvR.set (d := .at_ (.ref a) d) ⟨rfl, r1⟩ i (en.mono e1.le))
/-! ### values that are the same, or equal and flat -/
def DSam : Eqv := fun x y _ => ∃ a, x = .ref a ∧ y = .ref a
theorem mon_sam : Mon DSam := fun _ _ _ _ _ d => d
theorem eqG_sam {X : Cx} : EqG X 0 DSam := by
  intro A pins s σ H x y u v sb I rx ry d
  obtain ⟨a, rfl, rfl⟩ := d
  cases rx
  cases ry
  exact SeqAt.EqAt.same (A := A) (s := s) (.ref a) X.prog X.w X.xe _ ⟨rfl, H, I, Ext.rfl'⟩
def DOd : Eqv := fun x y H => DFlat x y H ∨ DSam x y H
theorem rcG_od {X : Cx} : RcG X 1 (DTup X.K DOd) := rcG_tup (mon_flat.or mon_sam) (eqG_flat.or eqG_sam)
theorem rcG_odl {X : Cx} : RcG X 2 (DList (DTup X.K DOd)) := rcG_list (mon_tup (mon_flat.or mon_sam)) (eqG_tup (mon_flat.or mon_sam) (eqG_flat.or eqG_sam))
inductive Alike : D → D → Prop where
  | non : Alike .non .non
  | bl (b : Bool) : Alike (.bl b) (.bl b)
  | int (i : Int) : Alike (.int i) (.int i)
  | str (x : Str) : Alike (.str x) (.str x)
  | at_ (a : Addr) (d d' : D) : Alike (.at_ (.ref a) d) (.at_ (.ref a) d')
theorem Alike.od {G H : Hp} {d d' : D} {v v' : V} (h : Alike d d') (r : Rep K G B d v) (r' : Rep K G B d' v') : DOd v v' H := by
  cases h with
  | non => rw [show v = _ from r, show v' = _ from r']; exact .inl ⟨rfl, rfl, rfl⟩
  | bl b => rw [show v = _ from r, show v' = _ from r']; exact .inl ⟨rfl, rfl, by cases b <;> rfl⟩
  | int i => rw [show v = _ from r, show v' = _ from r']; exact .inl ⟨rfl, rfl, by simp [eqV]⟩
  | str x => rw [show v = _ from r, show v' = _ from r']; exact .inl ⟨rfl, rfl, by simp [eqV]⟩
  | at_ a d d' => exact .inr ⟨a, r.1, r'.1⟩
def flatD : D → Bool
  | .non => true
  | .bl _ => true
  | .int _ => true
  | .str _ => true
  | _ => false
theorem seen.alike {d d' : D} (s : seen d d') (h : (AW.flatD d || AW.refD d) = true) : Alike d' d' := by
  rw [Bool.or_eq_true] at h
  rcases s with ⟨rfl, z⟩ | ⟨⟨a, rfl⟩, _⟩
  · rcases h with h | h
    · cases d' with
      | non => exact .non
      | bl b => exact .bl b
      | int i => exact .int i
      | str x => exact .str x
      | tup _ => cases z
      | lst _ => cases z
      | ins _ _ _ => cases z
      | pen _ _ => cases h
      | scr _ => cases h
      | val _ => cases h
      | lam _ _ => cases h
      | at_ _ _ => cases h
      | edk => cases z
      | dk _ _ => cases h
      | tb _ => cases h
    · rw [h] at z; cases z
  · exact .at_ a _ _
inductive AlikeL : List D → List D → Prop where
  | nil : AlikeL [] []
  | cons {d d' : D} {ds ds' : List D} (h : Alike d d') (r : AlikeL ds ds') : AlikeL (d :: ds) (d' :: ds')
theorem AlikeL.prs {G H : Hp} : ∀ {ds ds' : List D} {vs vs' : List V}, AlikeL ds ds' → RepL K G B ds vs → RepL K G B ds' vs' → Prs DOd vs vs' H := by
  intro ds ds' vs vs' h
  induction h generalizing vs vs' with
  | nil =>
    intro r r'
    rw [show vs = _ from r, show vs' = _ from r']
    exact Prs.nil
  | cons h _ ih =>
    rintro ⟨v, w, rfl, r1, r2⟩ ⟨v', w', rfl, r1', r2'⟩
    exact Prs.cons (h.od r1 r1') (ih r2 r2')
theorem AlikeL.len {ds ds' : List D} (h : AlikeL ds ds') : ds.length = ds'.length := by
  induction h with
  | nil => rfl
  | cons _ _ ih => rw [List.length_cons, List.length_cons, ih]
theorem ro_eqT {ds ds' : List D} (h : AlikeL ds ds') (hk : k (.bl true) B) : Ro K E e (rEqG (DTup K DOd)) (.tup ds) (.tup ds') B k := fun x y H G Q s r1 r2 _ q => by
  obtain ⟨a, vs, rfl, ha, hr⟩ := r1
  obtain ⟨b, ws, rfl, hb, hw⟩ := r2
  have le := Le.of_sub (B := B) (B' := B) s (Int.le_refl _)
  exact ⟨⟨a, b, vs, ws, rfl, rfl, le.seqT ha, le.seqT hb, h.prs hr hw⟩, fun H' ex => q _ _ _ G H' hk ⟨Le.refl _ _, fun a o z => ex _ _ (s _ _ z), fun a o z n _ => ⟨ex _ _ z, n⟩⟩ rfl⟩
inductive AlikeT : List D → List D → Prop where
  | nil : AlikeT [] []
  | cons {as bs : List D} {ds ds' : List D} (h : AlikeL as bs) (r : AlikeT ds ds') : AlikeT (.tup as :: ds) (.tup bs :: ds')
theorem AlikeT.prs {G H : Hp} (s : Sub G H) : ∀ {ds ds' : List D} {vs vs' : List V}, AlikeT ds ds' → RepL K G B ds vs → RepL K G B ds' vs' → Prs (DTup K DOd) vs vs' H := by
  intro ds ds' vs vs' h
  induction h generalizing vs vs' with
  | nil =>
    intro r r'
    rw [show vs = _ from r, show vs' = _ from r']
    exact Prs.nil
  | cons h _ ih =>
    rintro ⟨v, w, rfl, ⟨a, us, rfl, ha, hr⟩, r2⟩ ⟨v', w', rfl, ⟨b, us', rfl, hb, hr'⟩, r2'⟩
    have le := Le.of_sub (B := B) (B' := B) s (Int.le_refl _)
    exact Prs.cons ⟨a, b, us, us', rfl, rfl, le.seqT ha, le.seqT hb, h.prs hr hr'⟩ (ih r2 r2')
theorem ro_eqTs {ds ds' : List D} (h : AlikeT ds ds') (hk : k (.bl true) B) : Ro K E e (rEqG (DList (DTup K DOd))) (.lst ds) (.lst ds') B k := fun x y H G Q s r1 r2 _ q => by
  obtain ⟨a, vs, rfl, ha, hr⟩ := r1
  obtain ⟨b, ws, rfl, hb, hw⟩ := r2
  exact ⟨⟨a, b, vs, ws, rfl, rfl, s _ _ ha, s _ _ hb, h.prs s hr hw⟩, fun H' ex => q _ _ _ G H' hk ⟨Le.refl _ _, fun a o z => ex _ _ (s _ _ z), fun a o z n _ => ⟨ex _ _ z, n⟩⟩ rfl⟩
end
end AW

set_option linter.all false
set_option maxRecDepth 100000
set_option maxHeartbeats 4000000
namespace AW
open PySem PySem.Spec PyProof.Rows L2
variable [Tbs]
/-! ### either reading -/
def tOr2E (t u : TE) : TE := fun σ H Q => t σ H Q ∨ u σ H Q
theorem pe_or2 {X : Cx} {e : Expr} {t u : TE} (h1 : PE X e t) (h2 : PE X e u) : PE X e (tOr2E t u) := ⟨fun pins s σ H Q I h => h.elim (h1.run pins s σ H Q I) (h2.run pins s σ H Q I)⟩
section
variable {K : PySem.W.Frag} {E E' E1 : XK} {e : EW} {ρ : List (Option D)} {B : Int} {k : KD} {κ : KS} {ta tb tl te : TE} {t : TA} {us : TS} {pr : Pr} {i sl : Nat} {ds : List D}
theorem we_orL (h : We K E e ta ρ B k) : We K E e (tOr2E ta tb) ρ B k := fun σ H G Q s en x q => .inl (h σ H G Q s en x q)
theorem we_orR (h : We K E e tb ρ B k) : We K E e (tOr2E ta tb) ρ B k := fun σ H G Q s en x q => .inr (h σ H G Q s en x q)
/-- [f(x) for x in xs]: each element told by itself, the pens left -/
theorem we_lc_each {tl : TE} (h : We K E e tl ρ B fun d B1 => ∃ (ds rs : List D), d = .lst ds ∧ rs.length = ds.length ∧ ds.length < sizeLine ∧
    (∀ (i : Nat) (x r : D), ds[i]? = some x → rs[i]? = some r → ∀ k' : KD, k' r B1 → We K E1 noE te ((ρ.set sl none).set sl (some x)) B1 k') ∧ k (.lst rs) B1) :
    We K E e (tLc (iList K tl) (gName sl) tYes te [sl]) ρ B k := we_lc_list (E1 := E1) (h.imp fun d B1 ⟨ds, rs, ed, hl, hz, hs, hk⟩ => ⟨ds, ed, hz, fun i out B' => out = rs.take i ∧ B' = B1, ⟨rfl, rfl⟩, fun i x out B' hi ⟨eo, eB⟩ => wt_yes ⟨fun _ => by
      subst eB
      have hlt : i < rs.length := by rw [hl]; exact (List.getElem?_eq_some_iff.mp hi).1
      refine hs i x rs[i] hi (List.getElem?_eq_getElem hlt) _ ⟨?_, rfl⟩
      rw [eo, List.take_add_one, List.getElem?_eq_getElem hlt]
      rfl, fun h => nomatch h⟩, fun out B' _ ⟨eo, eB⟩ => by
      rw [eo, eB, ← hl, List.take_length]
      exact hk⟩)
/-! ### a list that is being made -/
theorem EnvR.weakAt {G : Hp} {x : Option V} : ∀ {ρ : List (Option D)} {σ : L2.St} (i : Nat), EnvR K G B ρ σ → EnvR K G B (ρ.set i none) (σ.set i x)
  | [], _, _, h => by rw [show _ = _ from h]; exact rfl
  | _ :: _, _, 0, ⟨y, r, e, h, hr⟩ => ⟨x, r, by rw [e]; rfl, fun d q => (nomatch q), hr⟩
  | _ :: _, _, i + 1, ⟨y, r, e, h, hr⟩ => ⟨y, r.set i x, by rw [e]; rfl, h, EnvR.weakAt i hr⟩
/-- the list at slot i is not told yet: its items are ds -/
def Wsb (K : PySem.W.Frag) (E : XK) (e : EW) (t : TS) (ρ : List (Option D)) (B : Int) (i : Nat) (ds : List D) (κ : KS) : Prop :=
  ∀ σ H G Dn G0 H0 B0 p vs, Sub G H → EnvR K G B ρ σ → σ[i]? = some (some (.ref p)) → H0 p = none → G p = none → H p = some (.lst vs) → RepL K G B ds vs → Ext G0 H0 B0 G H B → XOk K E e G0 H0 B0 → EndsOk K κ Dn G0 H0 B0 → t Dn σ H
theorem wb_start (hi : i < ρ.length) (h : Wa K E e t ρ B fun ds B1 => ds.length ≤ sizeLine ∧ Wsb K E e us (ρ.set i none) B1 i ds κ) : Ws K E e (tSeq (tAsg (tLst t) (gName i)) us) ρ B κ := fun σ H G Dn s en x q =>
  h σ H G _ s en x fun ds vs B1 G1 H1 ⟨h0, h1⟩ e1 r1 => ⟨by rw [← r1.length]; exact h0, fun p np => by
    have g : G1 p = none := by
      cases z : G1 p with
      | none => rfl
      | some u => rw [e1.sub _ _ z] at np; cases np
    have ex : Ext G1 H1 B1 G1 (upd H1 p (.lst vs)) B1 := Ext.hid e1.sub np
    have en1 : EnvR K G1 B1 (ρ.set i none) (σ.set i (some (.ref p))) := by
      exact EnvR.weakAt i (en.mono e1.le)
    refine h1 _ _ G1 Dn G1 H1 B1 p vs ex.sub en1 ?_ np g upd_same r1 ex (x.ext e1) (q.ext e1)
    rw [List.getElem?_set_self (by rw [← en.len]; exact hi)]⟩
theorem wb_append (h : We K E e ta ρ B fun d B1 => ds.length < sizeLine ∧ Wsb K E e us ρ B1 i (ds ++ [d]) κ) : Wsb K E e (tSeq (tDrop (tBM K "list" rAppend (tVar i) (tCons ta tNil))) us) ρ B i ds κ := fun σ H G Dn G0 H0 B0 p vs s en hp np gp hL hr ex x q => by
  refine ⟨.ref p, hp, ?_, ?_⟩
  · exact .inl ⟨rfl, vs, SqL.of hL⟩
  · refine h σ H G _ s en (x.ext ex) fun d v B1 G1 H1 ⟨hl, h1⟩ e1 r1 => ?_
    obtain ⟨z1, z2⟩ := e1.fr p _ hL gp (fun _ z => nomatch z)
    refine ⟨p, vs, v, rfl, rfl, z1, by rw [← hr.length]; exact hl, ?_⟩
    have eA := ex.trans e1
    refine h1 σ (upd H1 p (.lst (vs ++ [v]))) G1 Dn G0 H0 B0 p _ (fun a o z => ?_) (en.mono e1.le) hp np z2 upd_same ((hr.mono e1.le).append ⟨v, [], rfl, r1, rfl⟩) ⟨eA.le, fun a o z => ?_, fun a o z n t => ?_⟩ x q
    · rw [upd_ne (ne_of_none z z2)]; exact e1.sub _ _ z
    · rw [upd_ne (ne_of_none z z2)]; exact e1.sub _ _ z
    · rw [upd_ne (ne_of_none z np)]; exact eA.fr _ _ z n t
theorem wb_end {t : TS} (hi : i < ρ.length) (h : Ws K E e t (ρ.set i (some (.lst ds))) B κ) : Wsb K E e t ρ B i ds κ := fun σ H G Dn G0 H0 B0 p vs s en hp np gp hL hr ex x q => by
  have le : Le G B (upd G p (.lst vs)) B := Le.of_sub (fun a o z => by rw [upd_ne (ne_of_none z gp)]; exact z) (Int.le_refl _)
  have e1 : Ext G0 H0 B0 (upd G p (.lst vs)) H B := ⟨ex.le.trans le, fun a o z => by
    by_cases w : a = p
    · subst w; rw [upd_same] at z; cases z; exact hL
    · rw [upd_ne w] at z; exact s _ _ z, fun a o z n t => by
    rw [upd_ne (ne_of_none z np)]
    exact ex.fr _ _ z n t⟩
  have en1 := EnvR.set (d := .lst ds) (v := .ref p) ⟨p, vs, rfl, upd_same, hr.mono le⟩ i (en.mono le)
  have es : σ.set i (some (V.ref p)) = σ := by
    apply List.ext_getElem?
    intro j
    rw [List.getElem?_set]
    by_cases hj : i = j
    · subst hj
      rw [if_pos rfl, hp]
      split
      · rfl
      · have hl := en.len
        omega
    · rw [if_neg hj]
  rw [es] at en1
  exact h σ H (upd G p (.lst vs)) Dn e1.sub en1 (x.ext e1) (q.ext e1)
end
end AW

set_option linter.all false
set_option maxRecDepth 100000
set_option maxHeartbeats 4000000
namespace AW
open PySem PySem.Spec PyProof.Rows L2
variable [Tbs]
section
variable {K : PySem.W.Frag} {E E' E1 : XK} {e : EW} {ρ : List (Option D)} {B : Int} {k : KD} {κ : KS} {ta tb tl te ty : TE} {tt : TT} {t : TA} {us : TS} {pr : Pr} {i sl : Nat} {ds : List D}
/-- a text's letter -/
theorem ro_ixS {z : Str} {i : Int} {c : _} (hz : z.length ≤ sizeLine) (h : atI z.cps.toList i = some c) (hk : k (.str ⟨#[c]⟩) B) : Ro K E e rIxS (.str z) (.int i) B k := fun x y H G Q s r1 r2 _ q =>
  ⟨z, i, c, r1, r2, hz, h, q _ _ _ _ _ hk (Ext.refl s) rfl⟩
theorem we_gcd3 (h : Wa K E e t ρ B fun ds B1 => ∃ a b c : Int, ds = [.int a, .int b, .int c] ∧ k (.int (((a.natAbs.gcd b.natAbs).gcd c.natAbs : Nat) : Int)) B1) : We K E e (tCB rGcd3 t) ρ B k :=
  we_cb fun σ H G Q s en x q => h σ H G Q s en x fun ds vs B1 G1 H1 ⟨a, b, c, ed, hk⟩ e1 r1 => q ds vs B1 G1 H1 (fun ws H2 G2 Q2 s2 r2 q2 => by
    subst ed
    obtain ⟨_, _, rfl, rfl, _, _, rfl, rfl, _, _, rfl, rfl, rfl⟩ := r2
    exact ⟨a, b, c, rfl, q2 _ _ _ _ _ hk (Ext.refl s2) rfl⟩) e1 r1
theorem ro_neB {i j : Bool} (h : k (.bl (!decide (i = j))) B) : Ro K E e rNe (.bl i) (.bl j) B k := fun x y H G Q s r1 r2 _ q => by
  rw [show x = _ from r1, show y = _ from r2]
  have e1 : decide (V.bl i = V.bl j) = decide (i = j) := by
    by_cases z : i = j
    · subst z; simp
    · rw [decide_eq_false z, decide_eq_false fun w => z (V.bl.inj w)]
  refine ⟨rfl, ?_⟩
  rw [e1]
  exact q _ _ _ _ _ h (Ext.refl s) rfl
theorem ro_eqB {i j : Bool} (h : k (.bl (decide (i = j))) B) : Ro K E e rEq (.bl i) (.bl j) B k := fun x y H G Q s r1 r2 _ q => by
  rw [show x = _ from r1, show y = _ from r2]
  have e1 : decide (V.bl i = V.bl j) = decide (i = j) := by
    by_cases z : i = j
    · subst z; simp
    · rw [decide_eq_false z, decide_eq_false fun w => z (V.bl.inj w)]
  refine ⟨rfl, ?_⟩
  rw [e1]
  exact q _ _ _ _ _ h (Ext.refl s) rfl
/-- isinstance(.., tuple) of a tuple -/
theorem we_isi_tuple (h : Wa K E e t ρ B fun ds B1 => ∃ xs : List D, ds = [.tup xs, .val (.ty "tuple")] ∧ k (.bl true) B1) : We K E e (tCB (rIsi K) t) ρ B k :=
  we_cb fun σ H G Q s en x q => h σ H G Q s en x fun ds vs B1 G1 H1 ⟨xs, ed, hk⟩ e1 r1 => q ds vs B1 G1 H1 (fun ws H2 G2 Q2 s2 r2 q2 => by
    subst ed
    obtain ⟨_, _, rfl, ⟨a, us, rfl, ha, hr⟩, c, _, rfl, rc, rfl⟩ := r2
    rw [show c = _ from rc]
    have hb := (Le.of_sub (B := B1) (B' := B1) s2 (Int.le_refl _)).seqT ha
    have ty : TyX K H2 (.ref a) (.type "tuple") := by
      rcases hb with (hb | ⟨o, hb⟩) | ⟨o, its, n, hk, hc, _⟩
      · exact .base (.tup hb)
      · exact .fTuple hb
      · exact .kTuple hk hc
    exact ⟨_, _, _, _, true, rfl, .ty _, ty, kit_ty (by decide +kernel), q2 _ _ _ _ _ hk (Ext.refl s2) rfl⟩) e1 r1
/-- a tuple of ints of the text -/
theorem we_constT {c : Addr} {ns : List Int} (q : ∀ H : Hp, SqT K H c (ns.map V.int)) (hk : k (.tup (ns.map D.int)) B) : We K E e (tC (.ref c)) ρ B k :=
  We.at (d := .tup (ns.map D.int)) (fun σ H G s en => ⟨.ref c, ⟨c, _, rfl, q G, RepL.ints ns⟩, fun Q q => q⟩) hk
theorem we_intofB (h : Wa K E e t ρ B fun ds B1 => ∃ b : Bool, ds = [.bl b] ∧ k (.int (if b then 1 else 0)) B1) : We K E e (tCB (fun xs H Q => (∃ i, xs = [.int i] ∧ Q (.int i) H) ∨ ∃ k, xs = [.bl k] ∧ Q (.int (if k then 1 else 0)) H) t) ρ B k :=
  we_cb fun σ H G Q s en x q => h σ H G Q s en x fun ds vs B1 G1 H1 ⟨b, ed, hk⟩ e1 r1 => q ds vs B1 G1 H1 (fun ws H2 G2 Q2 s2 r2 q2 => by
    subst ed
    obtain ⟨v, _, rfl, rv, rfl⟩ := r2
    rw [show v = _ from rv]
    exact .inr ⟨b, rfl, q2 _ _ _ _ _ hk (Ext.refl s2) rfl⟩) e1 r1
theorem we_lenS (h : Wa K E e t ρ B fun ds B1 => ∃ ns : List Int, ds = [.scr ns] ∧ k (.int ns.length) B1) : We K E e (tCB (fun xs H Q => ∃ p ys, xs = [.ref p] ∧ (SqL K H p ys ∨ SqT K H p ys) ∧ Q (.int ys.length) H) t) ρ B k :=
  we_cb fun σ H G Q s en x q => h σ H G Q s en x fun ds vs B1 G1 H1 ⟨ns, ed, h1⟩ e1 r1 => q ds vs B1 G1 H1 (fun ws H2 G2 Q2 s2 r2 q2 => by
    subst ed
    obtain ⟨v, _, rfl, ⟨_, a, rfl, ha⟩, rfl⟩ := r2
    exact ⟨a, _, rfl, .inl ((Le.of_sub (B := B1) (B' := B1) s2 (Int.le_refl _)).seqL ha), by rw [List.length_map]; exact q2 _ _ _ _ _ h1 (Ext.refl s2) rfl⟩) e1 r1
/-- raise C() -/
theorem ws_raise0 {C : Addr} (h : e C none B) : Ws K E e (fun _ σ H => (fun (_ : L2.St) (H : Hp) (Q : XK) => Q (.ref C) none H) σ H fun cls d H' => E cls d H') ρ B κ := fun σ H G Dn s en x q => x C none B G H h (Ext.refl s)
/-- xs[::-1] -/
theorem we_revL (h : We K E e ta ρ B fun d B1 => ∃ ds, d = .lst ds ∧ k (.lst ds.reverse) B1) : We K E e (tRevL K ta) ρ B k := fun σ H G Q s en x q =>
  h σ H G _ s en x fun d v B1 G1 H1 ⟨ds, ed, hk⟩ e1 r1 => by
    subst ed
    obtain ⟨a, vs, rfl, ha, hr⟩ := r1
    have rev : ∀ (ds : List D) (vs : List V), RepL K G1 B1 ds vs → RepL K G1 B1 ds.reverse vs.reverse := by
      intro ds
      induction ds with
      | nil => intro vs h; rw [show vs = _ from h]; exact rfl
      | cons d r ih =>
        intro vs h
        obtain ⟨v, w, rfl, h1, h2⟩ := h
        rw [List.reverse_cons, List.reverse_cons]
        exact (ih _ h2).append ⟨v, [], rfl, h1, rfl⟩
    refine ⟨a, vs, rfl, SqL.of (e1.sub _ _ ha), fun p np => q _ _ _ _ _ hk (e1.trans (Ext.new (B := B1) e1.sub np)) ⟨p, _, rfl, upd_same, (rev ds vs hr).mono (Ext.new (B := B1) e1.sub np).le⟩⟩
/-- xs * n -/
theorem ro_rep {xs : List D} {n : Int} (h0 : -(2 ^ 63) ≤ n) (h1 : n < 2 ^ 63) (hl : xs.length * n.toNat ≤ sizeLine) (hk : k (.lst (List.replicate n.toNat xs).flatten) B) : Ro K E e rRep (.lst xs) (.int n) B k := fun x y H G Q s r1 r2 _ q => by
  obtain ⟨a, vs, rfl, ha, hr⟩ := r1
  have rep : ∀ m : Nat, RepL K G B (List.replicate m xs).flatten (List.replicate m vs).flatten := by
    intro m
    induction m with
    | zero => exact rfl
    | succ m ih =>
      rw [List.replicate_succ, List.replicate_succ, List.flatten_cons, List.flatten_cons]
      exact hr.append ih
  exact ⟨a, n, vs, rfl, r2, s _ _ ha, h0, h1, by rw [← hr.length]; exact hl, fun p np => q _ _ _ _ _ hk (Ext.new (B := B) s np) ⟨p, _, rfl, upd_same, (rep _).mono (Ext.new (B := B) s np).le⟩⟩
/-- list(script) -/
theorem we_listS (h : Wa K E e t ρ B fun ds B1 => ∃ ns : List Int, ds = [.scr ns] ∧ k (.lst (ns.map D.int)) B1) :
    We K E e (tCB (fun xs H Q => ∃ p ys, xs = [.ref p] ∧ (SqL K H p ys ∨ SqT K H p ys) ∧ ∀ l, H l = none → Q (.ref l) (upd H l (.lst ys))) t) ρ B k :=
  we_cb fun σ H G Q s en x q => h σ H G Q s en x fun ds vs B1 G1 H1 ⟨ns, ed, hk⟩ e1 r1 => q ds vs B1 G1 H1 (fun ws H2 G2 Q2 s2 r2 q2 => by
    subst ed
    obtain ⟨v, _, rfl, ⟨_, a, rfl, ha⟩, rfl⟩ := r2
    have ha2 : SqL K H2 a (ns.map V.int) := (Le.of_sub (B := B1) (B' := B1) s2 (Int.le_refl _)).seqL ha
    exact ⟨a, _, rfl, .inl ha2, fun l nl => q2 _ _ _ _ _ hk (Ext.new (B := B1) s2 nl) ⟨l, _, rfl, upd_same, RepL.ints ns⟩⟩) e1 r1
theorem we_edk (hk : k .edk B) : We K E e tDNewK ρ B k := fun σ H G Q s en x q p np => q _ _ _ _ _ hk (Ext.new (B := B) s np) ⟨p, rfl, upd_same⟩
/-! ### {..}[key] -/
def lookD (l : List (Str × D)) (z : Str) : Option D := l.foldl (fun o kv => if kv.1 = z then some kv.2 else o) none
def Wps (K : PySem.W.Frag) (E : XK) (e : EW) (ρ : List (Option D)) : List (TE × TE) → Int → (List (Str × D) → Int → Prop) → Prop
  | [], B, k => k [] B
  | (tk, tv) :: r, B, k => We K E e tk ρ B fun a B1 => ∃ z, a = .str z ∧ We K E e tv ρ B1 fun d B2 => Wps K E e ρ r B2 fun l B3 => k ((z, d) :: l) B3
theorem wps_run : ∀ (trs : List (TE × TE)) {B : Int} {k : List (Str × D) → Int → Prop}, Wps K E e ρ trs B k → ∀ σ H G (Q : List (V × V) → Hp → Prop), Sub G H → EnvR K G B ρ σ → XOk K E e G H B →
    (∀ l (vs : List V) B' G' H', k l B' → Ext G H B G' H' B' → RepL K G' B' (l.map (·.2)) vs → Q ((l.map (·.1)).zip vs |>.map fun p => (V.str p.1, p.2)) H') → tPairs trs σ H Q
  | [], B, k, h, σ, H, G, Q, s, en, x, q => by
    have := q [] [] B G H h (Ext.refl s) rfl
    exact this
  | (tk, tv) :: r, B, k, h, σ, H, G, Q, s, en, x, q => by
    refine h σ H G _ s en x fun a v B1 G1 H1 ⟨z, ez, h1⟩ e1 r1 => ?_
    subst ez
    rw [show v = _ from r1]
    refine h1 σ H1 G1 _ e1.sub (en.mono e1.le) (x.ext e1) fun d w B2 G2 H2 h2 e2 r2 => ?_
    refine wps_run r h2 σ H2 G2 _ e2.sub ((en.mono e1.le).mono e2.le) ((x.ext e1).ext e2) fun l vs B3 G3 H3 hk e3 r3 => ?_
    exact q ((z, d) :: l) (w :: vs) B3 G3 H3 hk ((e1.trans e2).trans e3) ⟨w, vs, rfl, r2.mono e3.le, r3⟩
theorem look_merge {G : Hp} {B : Int} (z : Str) : ∀ (l : List (Str × D)) (vs : List V) (acc : List (Key × V)) (o : Option D), RepL K G B (l.map (·.2)) vs → (∀ d, o = some d → ∃ v, valV acc (Sum.inr z) = some v ∧ Rep K G B d v) →
    ∀ d, l.foldl (fun o kv => if kv.1 = z then some kv.2 else o) o = some d → ∃ v, valV (mergeK acc ((l.map (·.1)).zip vs |>.map fun p => ((Sum.inr p.1 : Key), p.2))) (Sum.inr z) = some v ∧ Rep K G B d v
  | [], vs, acc, o, hr, ho, d, h => by
    rw [show vs = _ from hr]
    exact ho d h
  | (y, d0) :: l, vs, acc, o, hr, ho, d, h => by
    obtain ⟨v, w, rfl, h1, h2⟩ := hr
    refine look_merge z l w (putK acc (Sum.inr y) v) (if y = z then some d0 else o) h2 (fun d1 e1 => ?_) d h
    rw [valV_put]
    by_cases hy : y = z
    · subst hy
      rw [if_pos rfl] at e1
      cases e1
      exact ⟨v, if_pos rfl, h1⟩
    · rw [if_neg hy] at e1
      obtain ⟨u, k1, k2⟩ := ho d1 e1
      refine ⟨u, ?_, k2⟩
      rw [if_neg (fun w => hy (Sum.inr.inj w).symm)]
      exact k1
theorem we_dsel {trs : List (TE × TE)} (h : Wps K E e ρ trs B fun l B1 => l.length ≤ 15 ∧ We K E e ty ρ B1 fun kd B2 => ∃ z d, kd = .str z ∧ lookD l z = some d ∧ k d B2) : We K E e (tDGet (tDisp trs) ty) ρ B k := fun σ H G Q s en x q => by
  intro p np
  have ex := Ext.hid (B := B) (o := .dK []) s np
  have gp : G p = none := by
    cases z : G p with
    | none => rfl
    | some u => rw [s _ _ z] at np; cases np
  refine wps_run trs h σ _ G _ ex.sub en (x.ext ex) fun l vs B1 G1 H1 ⟨hl, h1⟩ e1 r1 => ?_
  obtain ⟨z1, z2⟩ := e1.fr p _ upd_same gp (fun _ z => nomatch z)
  have hll : l.length = vs.length := by rw [← r1.length, List.length_map]
  refine ⟨z1, (l.map (·.1)).zip vs |>.map fun p => ((Sum.inr p.1 : Key), p.2), ?_, ?_, ?_⟩
  · rw [List.map_map]
    rfl
  · rw [List.length_map, List.length_zip, List.length_map, ← hll, Nat.min_self]
    exact hl
  · have eA : Ext G H B G1 (upd H1 p (.dK (mergeK [] ((l.map (·.1)).zip vs |>.map fun p => ((Sum.inr p.1 : Key), p.2))))) B1 := by
      have eB := ex.trans e1
      refine ⟨eB.le, fun a o z => ?_, fun a o z n t => ?_⟩
      · rw [upd_ne (ne_of_none z z2)]; exact e1.sub _ _ z
      · rw [upd_ne (ne_of_none z np)]; exact eB.fr _ _ z n t
    refine h1 σ _ G1 _ eA.sub (en.mono eA.le) (x.ext eA) fun kd v B2 G2 H2 ⟨z, d, ez, hz, hk⟩ e2 r2 => ?_
    subst ez
    rw [show v = _ from r2]
    obtain ⟨y1, y2⟩ := e2.fr p _ upd_same z2 (fun _ z => nomatch z)
    obtain ⟨v, w1, w2⟩ := look_merge (K := K) (G := G1) (B := B1) z l vs [] none r1 (fun d q => nomatch q) d hz
    exact ⟨p, v, rfl, by rw [← w1]; exact DGet.k (k := Sum.inr z) y1, q _ _ _ _ _ hk (eA.trans e2) (w2.mono e2.le)⟩
/-! ### comprehensions over a range -/
theorem we_lc_range1 (h : Wa K E e t ρ B fun as B1 => ∃ j : Int, as = [.int j] ∧ -(2 ^ 62) ≤ j ∧ j < 2 ^ 62 ∧ j.toNat < sizeLine ∧ ∃ I : Nat → List D → Int → Prop, I 0 [] B1 ∧
    (∀ (i : Nat) out B', i < j.toNat → I i out B' → Wt K E1 noE tt ((ρ.set sl none).set sl (some (.int (0 + i)))) B' fun b B3 => (b = true → We K E1 noE te ((ρ.set sl none).set sl (some (.int (0 + i)))) B3 fun y B4 => I (i + 1) (out ++ [y]) B4) ∧ (b = false → I (i + 1) out B3)) ∧
    ∀ out B', out.length ≤ j.toNat → I j.toNat out B' → k (.lst out) B') : We K E e (tLc (iRng1 t) (gName sl) tt te [sl]) ρ B k := fun σ H G Q s en x q =>
  h σ H G _ s en x fun as vs B1 G1 H1 ⟨j, ed, j0, j1, jl, I, i0, hs, hd⟩ e1 r1 => by
    subst ed
    obtain ⟨v, _, rfl, rv, rfl⟩ := r1
    rw [show v = _ from rv]
    refine ⟨j, rfl, j0, j1, fun L nL => ?_⟩
    refine lc_range (fun i H' => LcOk K (fun out B => out.length ≤ i ∧ I i out B) L G1 H1 B1 H') (lc_start e1.sub nL ⟨Nat.le_refl _, i0⟩) ?_ ?_
    · intro i H' hi hz
      have hz2 := hz
      exact lc_step nL e1.sub (en.mono e1.le) hz (by omega) (d := .int (0 + i)) rfl (fun out B' hI => hs i out B' hi hI)
    · intro H' hz
      exact lc_end e1 nL hz (fun out B' hI => hd out B' hI.1 hI.2) q
/-- [f(i) for i in range(j)], the pens left -/
theorem we_lc_rangeF (h : Wa K E e t ρ B fun as B1 => ∃ j : Int, as = [.int j] ∧ -(2 ^ 62) ≤ j ∧ j < 2 ^ 62 ∧ j.toNat < sizeLine ∧ ∃ f : Nat → D, (∀ i : Nat, i < j.toNat → ∀ k' : KD, k' (f i) B1 → We K E1 noE te ((ρ.set sl none).set sl (some (.int (0 + i)))) B1 k') ∧ k (.lst ((List.range j.toNat).map f)) B1) :
    We K E e (tLc (iRng1 t) (gName sl) tYes te [sl]) ρ B k := we_lc_range1 (E1 := E1) fun σ H G Q s en x q => h σ H G Q s en x fun as vs B1 G1 H1 ⟨j, ed, j0, j1, jl, f, hs, hk⟩ e1 r1 => q as vs B1 G1 H1 ⟨j, ed, j0, j1, jl, fun i out B' => out = (List.range i).map f ∧ B1 = B', ⟨rfl, rfl⟩, fun i out B' hi ⟨eo, eB⟩ => by
      subst eo eB
      refine wt_yes ⟨fun _ => hs i hi _ ⟨?_, rfl⟩, fun z => nomatch z⟩
      rw [List.range_succ, List.map_append]
      rfl, fun out B' _ ⟨eo, eB⟩ => by
      subst eo eB
      exact hk⟩ e1 r1
end
end AW

set_option linter.all false
set_option maxRecDepth 100000
set_option maxHeartbeats 4000000
namespace AW
open PySem PySem.Spec PyProof.Rows L2
variable [Tbs]
/-! instances that are called, classes made with errors -/
section
variable {K : PySem.W.Frag} {E E' : XK} {e : EW} {ρ : List (Option D)} {B : Int} {k : KD} {κ : KS} {ta tb tf : TE} {t : TA} {pr : Pr}
theorem we_callObj {C : Addr} (h : We K E e tf ρ B fun d B1 => ∃ ns fs, d = .ins C ns fs ∧ Wa K E e t ρ B1 fun ds B2 => pr (d :: ds) B2 k noE) : We K E e (tCallO C (spD K pr) E' tf t) ρ B k := fun σ H G Q s en x q =>
  h σ H G _ s en x fun d v B1 G1 H1 ⟨ns, fs, ed, h1⟩ e1 r1 => by
    subst ed
    obtain ⟨a, dx, vs, rfl, ha, hl, hr⟩ := id r1
    refine ⟨a, rfl, h1 σ H1 G1 _ e1.sub (en.mono e1.le) (x.ext e1) fun ds ws B2 G2 H2 h2 e2 r2 => ⟨⟨dx, _, e2.sub _ _ (e2.le.keep _ _ ha nopen_ins)⟩, ?_⟩⟩
    exact ⟨G2, .ins C ns fs :: ds, B2, k, noE, e2.sub, ⟨_, _, rfl, r1.mono e2.le, r2⟩, h2, (q.ext e1).ext e2, XOk.no⟩
theorem we_callObjE {C : Addr} (h : We K E e tf ρ B fun d B1 => ∃ ns fs, d = .ins C ns fs ∧ Wa K E e t ρ B1 fun ds B2 => pr (d :: ds) B2 k e) : We K E e (tCallO C (spD K pr) E tf t) ρ B k := fun σ H G Q s en x q =>
  h σ H G _ s en x fun d v B1 G1 H1 ⟨ns, fs, ed, h1⟩ e1 r1 => by
    subst ed
    obtain ⟨a, dx, vs, rfl, ha, hl, hr⟩ := id r1
    refine ⟨a, rfl, h1 σ H1 G1 _ e1.sub (en.mono e1.le) (x.ext e1) fun ds ws B2 G2 H2 h2 e2 r2 => ⟨⟨dx, _, e2.sub _ _ (e2.le.keep _ _ ha nopen_ins)⟩, ?_⟩⟩
    exact ⟨G2, .ins C ns fs :: ds, B2, k, e, e2.sub, ⟨_, _, rfl, r1.mono e2.le, r2⟩, h2, (q.ext e1).ext e2, (x.ext e1).ext e2⟩
theorem we_makeE {C : Addr} {ns : List Str} {pi : List D → Int → (List D → Int → Prop) → EW → Prop} (h : Wa K E e t ρ B fun ds B1 => pi ds B1 (fun fs B2 => k (.ins C ns fs) B2) e) : We K E e (tMake C (spI K C ns pi) [] E t) ρ B k := fun σ H G Q s en x q =>
  h σ H G _ s en x fun ds vs B1 G1 H1 h1 e1 r1 => by
    show ∀ p dx, H1 p = none → H1 dx = none → dx ≠ p → _
    intro p dx np nd ne
    rw [List.append_nil]
    have gp : G1 p = none := by
      cases z : G1 p with
      | none => rfl
      | some u => rw [e1.sub _ _ z] at np; cases np
    have gd : G1 dx = none := by
      cases z : G1 dx with
      | none => rfl
      | some u => rw [e1.sub _ _ z] at nd; cases nd
    have eh : Ext G1 H1 B1 G1 (upd (upd H1 dx (.own p)) p (.ins C dx [])) B1 := (Ext.hid e1.sub nd).trans (Ext.hid (Ext.hid (B := B1) e1.sub nd).sub (by rw [upd_ne ne.symm]; exact np))
    refine ⟨p, dx, vs, G1, ds, B1, _, e, rfl, upd_same, gp, gd, ne, by rw [upd_ne ne, upd_same], eh.sub, r1, h1, fun fs us B2 G2 H2 hk le sub fr g2 h2 hl hr => ⟨rfl, ?_⟩, (x.ext e1).ext eh⟩
    have e2 : Ext G H B (upd G2 p (.ins C dx (ns.zip us))) H2 B2 := by
      refine ⟨(e1.le.trans le).trans (Le.of_sub (fun a o z => by rw [upd_ne (ne_of_none z g2)]; exact z) (Int.le_refl _)), fun a o z => ?_, fun a o z n t => ?_⟩
      · by_cases hq : a = p
        · subst hq; rw [upd_same] at z; cases z; exact h2
        · rw [upd_ne hq] at z; exact sub _ _ z
      · obtain ⟨z1, z2⟩ := e1.fr a o z n t
        have hq : a ≠ p := ne_of_none z1 np
        obtain ⟨z3, z4⟩ := fr a o (by rw [upd_ne hq, upd_ne (ne_of_none z1 nd)]; exact z1) z2 hq t
        exact ⟨z3, by rw [upd_ne hq]; exact z4⟩
    exact q _ _ _ _ _ hk e2 ⟨p, dx, us, rfl, upd_same, hl, hr.mono (Le.of_sub (fun a o z => by rw [upd_ne (ne_of_none z g2)]; exact z) (Int.le_refl _))⟩
theorem nopen_ents {ents : List (Key × V)} (h : valV ents (Sum.inr "cells") = none) : ¬ IsPen (.dK ents) := fun z => by
  rcases z with ⟨k, l, c, s, r, z⟩ | ⟨_, z⟩
  · injection z with z
    subst z
    unfold penE at h
    simp [valV] at h
  · cases z
theorem merge_none (z : Str) : ∀ (l : List (Str × V)) (acc : List (Key × V)), (∀ p ∈ l, p.1 ≠ z) → valV acc (Sum.inr z) = none → valV (mergeK acc (l.map fun p => ((Sum.inr p.1 : Key), p.2))) (Sum.inr z) = none
  | [], acc, _, h => h
  | p :: l, acc, hl, h => by
    show valV (mergeK (putK acc (Sum.inr p.1) p.2) (l.map fun p => ((Sum.inr p.1 : Key), p.2))) (Sum.inr z) = none
    refine merge_none z l _ (fun q hq => hl q (List.mem_cons_of_mem _ hq)) ?_
    rw [valV_put, if_neg (fun w => hl p (List.mem_cons_self ..) (Sum.inr.inj w).symm)]
    exact h
/-- a dict of written names -/
theorem we_disp {trs : List (TE × TE)} (h : Wps K E e ρ trs B fun l B1 => l.length ≤ 15 ∧ (∀ p ∈ l, p.1 ≠ "cells") ∧ k (.dk (l.map (·.1)) (l.map (·.2))) B1) : We K E e (tDisp trs) ρ B k := fun σ H G Q s en x q => by
  intro p np
  have ex := Ext.hid (B := B) (o := .dK []) s np
  have gp : G p = none := by
    cases z : G p with
    | none => rfl
    | some u => rw [s _ _ z] at np; cases np
  refine wps_run trs h σ _ G _ ex.sub en (x.ext ex) fun l vs B1 G1 H1 ⟨hl, hc, h1⟩ e1 r1 => ?_
  obtain ⟨z1, z2⟩ := e1.fr p _ upd_same gp (fun _ z => nomatch z)
  have hll : l.length = vs.length := by rw [← r1.length, List.length_map]
  refine ⟨z1, (l.map (·.1)).zip vs |>.map fun p => ((Sum.inr p.1 : Key), p.2), ?_, ?_, ?_⟩
  · rw [List.map_map]
    rfl
  · rw [List.length_map, List.length_zip, List.length_map, ← hll, Nat.min_self]
    exact hl
  · have eB := ex.trans e1
    have np2 : ¬ IsPen (.dK (mergeK [] ((l.map (·.1)).zip vs |>.map fun p => ((Sum.inr p.1 : Key), p.2)))) := nopen_ents (merge_none "cells" _ _ (fun p hp => by
      have := (List.of_mem_zip (a := p.1) (b := p.2) hp).1
      obtain ⟨r, hr, er⟩ := List.mem_map.mp this
      rw [← er]
      exact hc r hr) rfl)
    have le2 : Le G1 B1 (upd G1 p (.dK (mergeK [] ((l.map (·.1)).zip vs |>.map fun p => ((Sum.inr p.1 : Key), p.2))))) B1 := Le.of_sub (fun a o z => by rw [upd_ne (ne_of_none z z2)]; exact z) (Int.le_refl _)
    have eA : Ext G H B (upd G1 p (.dK (mergeK [] ((l.map (·.1)).zip vs |>.map fun p => ((Sum.inr p.1 : Key), p.2))))) (upd H1 p (.dK (mergeK [] ((l.map (·.1)).zip vs |>.map fun p => ((Sum.inr p.1 : Key), p.2))))) B1 := by
      refine ⟨eB.le.trans le2, fun a o z => ?_, fun a o z n t => ?_⟩
      · by_cases hq : a = p
        · subst hq; rw [upd_same] at z ⊢; exact z
        · rw [upd_ne hq] at z ⊢; exact e1.sub _ _ z
      · have hq : a ≠ p := ne_of_none z np
        rw [upd_ne hq, upd_ne hq]
        exact eB.fr _ _ z n t
    exact q _ _ _ _ _ h1 eA ⟨p, vs, rfl, upd_same, np2, r1.mono le2⟩
theorem we_dget (h : We K E e ta ρ B fun d B1 => ∃ l : List (Str × D), d = .dk (l.map (·.1)) (l.map (·.2)) ∧ We K E e tb ρ B1 fun kd B2 => ∃ z d', kd = .str z ∧ lookD l z = some d' ∧ k d' B2) : We K E e (tDGet ta tb) ρ B k := fun σ H G Q s en x q =>
  h σ H G _ s en x fun d v B1 G1 H1 ⟨l, ed, h1⟩ e1 r1 => by
    subst ed
    refine h1 σ H1 G1 _ e1.sub (en.mono e1.le) (x.ext e1) fun kd u B2 G2 H2 ⟨z, d', ez, hz, hk⟩ e2 r2 => ?_
    subst ez
    rw [show u = _ from r2]
    obtain ⟨a, vs, rfl, ha, n, hr⟩ := r1.mono e2.le
    obtain ⟨v, w1, w2⟩ := look_merge (K := K) (G := G2) (B := B2) z l vs [] none hr (fun d q => nomatch q) d' hz
    exact ⟨a, v, rfl, by rw [← w1]; exact DGet.k (k := Sum.inr z) (e2.sub _ _ ha), q _ _ _ _ _ hk (e1.trans e2) w2⟩
end
end AW

set_option linter.all false
set_option maxRecDepth 100000
set_option maxHeartbeats 4000000
namespace AW
open PySem PySem.Spec PyProof.Rows L2
variable [Tbs]
/-! while loops, halving -/
section
variable {K : PySem.W.Frag} {E E' : XK} {e : EW} {ρ : List (Option D)} {B : Int} {k : KD} {κ : KS} {ta tb tf : TE} {t : TA} {pr : Pr}
/-- the tables of the lambdas, handed on with a value -/
theorem we_varT {i j : Nat} {d d0 : D} (h : ρ[i]? = some (some d)) (hj : ρ[j]? = some (some d0)) (ht : tabD d0 = true) (hk : k (.tb d) B) : We K E e (tVar i) ρ B k :=
  We.at (d := .tb d) (fun σ H G s en => let ⟨v, h1, h2⟩ := en.get h; let ⟨_, _, h3⟩ := en.get hj; ⟨v, ⟨h3.tabs ht, h2⟩, fun Q q => ⟨v, h1, q⟩⟩) hk
theorem we_varU {i : Nat} {d : D} (h : ρ[i]? = some (some (.tb d))) (hk : k d B) : We K E e (tVar i) ρ B k :=
  We.at (d := d) (fun σ H G s en => let ⟨v, h1, h2⟩ := en.get h; ⟨v, h2.2, fun Q q => ⟨v, h1, q⟩⟩) hk
theorem ws_while {c : TT} {ts : TS} (I : Nat → KE') (m : Nat) (h0 : I m ρ B)
    (hs : ∀ n ρ' B', I n ρ' B' → Wt K E e c ρ' B' fun b B1 => (b = true → Ws K E e ts ρ' B1 { nx := fun ρ2 B2 => ∃ n', n' < n ∧ I n' ρ2 B2, rt := κ.rt, bk := κ.nx, ct := fun ρ2 B2 => ∃ n', n' < n ∧ I n' ρ2 B2 }) ∧ (b = false → κ.nx ρ' B1)) : Ws K E e (tWhile c ts) ρ B κ := fun σ H G Dn s en x q => by
  refine ⟨fun n σ' H' => ∃ ρ' B' G', I n ρ' B' ∧ Ext G H B G' H' B' ∧ EnvR K G' B' ρ' σ', ⟨m, ρ, B, G, h0, Ext.refl s, en⟩, ?_⟩
  rintro n σ' H' ⟨ρ', B', G', hI, e1, en1⟩
  refine hs n ρ' B' hI σ' H' G' _ e1.sub en1 (x.ext e1) fun b B2 G2 H2 hb e2 => ?_
  have eA := e1.trans e2
  cases b with
  | true =>
    rw [if_pos rfl]
    refine ⟨fun σ3 H3 => ∃ n', n' < n ∧ ∃ ρ' B' G', I n' ρ' B' ∧ Ext G H B G' H3 B' ∧ EnvR K G' B' ρ' σ3, fun _ _ z => z, ?_⟩
    refine hb.1 rfl σ' H2 G2 _ e2.sub (en1.mono e2.le) (x.ext eA) ⟨?_, q.rt.ext eA, q.nx.ext eA, ?_⟩
    · rintro ρ3 σ3 B3 G3 H3 ⟨n', l, h3⟩ e3 en3
      exact ⟨n', l, ρ3, B3, G3, h3, eA.trans e3, en3⟩
    · rintro ρ3 σ3 B3 G3 H3 ⟨n', l, h3⟩ e3 en3
      exact ⟨n', l, ρ3, B3, G3, h3, eA.trans e3, en3⟩
  | false =>
    rw [if_neg Bool.false_ne_true]
    exact q.nx _ _ _ _ _ (hb.2 rfl) eA (en1.mono e2.le)
theorem ro_and1 {i : Int} (h : k (.int (i % 2)) B) : Ro K E e (fun x y H Q => ∃ (i : Int) (k : Nat), x = .int i ∧ y = .int (2 ^ k - 1) ∧ Q (.int (i % 2 ^ k)) H) (.int i) (.int 1) B k := fun x y H G Q s r1 r2 _ q =>
  ⟨i, 1, r1, r2, q (.int (i % 2)) _ _ _ _ h (Ext.refl s) rfl⟩
theorem ws_for_range2 {ts : TS} {g : TG} (h : Wa K E e t ρ B fun ds B1 => ∃ lo hi : Int, ds = [.int lo, .int hi] ∧ (-(2 ^ 62) ≤ lo ∧ lo < 2 ^ 62 ∧ -(2 ^ 62) ≤ hi ∧ hi < 2 ^ 62) ∧ ∃ I : Nat → KE', I 0 ρ B1 ∧ (∀ (i : Nat) ρ' B', i < (hi - lo).toNat → I i ρ' B' → Wg K g (.int (lo + i)) ρ' B' fun ρ2 B2 => Ws K E e ts ρ2 B2 { nx := I (i + 1), rt := κ.rt, bk := κ.nx, ct := I (i + 1) }) ∧ ∀ ρ' B', I (hi - lo).toNat ρ' B' → κ.nx ρ' B') :
    Ws K E e (tFor (iRng2 t) g ts) ρ B κ := fun σ H G Dn s en x q =>
  h σ H G _ s en x fun ds vs B1 G1 H1 ⟨lo, hi, ed, hb, I, i0, hs, hd⟩ e1 r1 => by
    subst ed
    obtain ⟨v, _, rfl, rv, u, _, rfl, ru, rfl⟩ := r1
    rw [show v = _ from rv, show u = _ from ru]
    exact ⟨lo, hi, rfl, hb, for_range_D e1.sub (en.mono e1.le) (x.ext e1) (q.ext e1) I lo i0 hs hd⟩
theorem ro_inT {a : D} {ds : List D} (oa : pyOk a = true) (ob : pyOkL ds = true) (sa : SeqAt.shaped (py a) = true) (sb : SeqAt.shaped (.tuple (pyL ds)) = true) (h : k (.bl ((pyL ds).any fun z => PyData.eqv z (py a))) B) : Ro K E e (rInT K) a (.tup ds) B k := fun x y H G Q s r1 r2 _ q =>
  ⟨_, _, Rep.dp s r1 oa, Rep.dp (d := .tup ds) s r2 ob, sa, sb, q (.bl _) _ _ _ _ h (Ext.refl s) rfl⟩
theorem ro_inL {a : D} {ds : List D} (oa : pyOk a = true) (ob : pyOkL ds = true) (sa : SeqAt.shaped (py a) = true) (sb : SeqAt.shaped (.list (pyL ds)) = true) (h : k (.bl ((pyL ds).any fun z => PyData.eqv z (py a))) B) : Ro K E e (rInD K) a (.lst ds) B k := fun x y H G Q s r1 r2 _ q =>
  ⟨_, _, Rep.dp s r1 oa, Rep.dp (d := .lst ds) s r2 ob, sa, sb, q (.bl _) _ _ _ _ h (Ext.refl s) rfl⟩
end
end AW

set_option linter.all false
set_option maxRecDepth 100000
set_option maxHeartbeats 4000000
namespace AW
open PySem PySem.Spec PyProof.Rows L2
variable [Tbs]
/-- tables at unlike places -/
theorem tab_uniq {l : List (Addr × Str)} (h : (l.map Prod.fst).Nodup) {a : Addr} {q : Str} (hm : (a, q) ∈ l) : ∀ p ∈ l, p.1 = a → p.2 = q := by
  induction l with
  | nil => cases hm
  | cons x r ih =>
    rw [List.map_cons, List.nodup_cons] at h
    intro p hp e
    rcases List.mem_cons.mp hp with rfl | hp
    · rcases List.mem_cons.mp hm with z | hm
      · rw [← z]
      · exact absurd (List.mem_map.mpr ⟨_, hm, e.symm⟩) h.1
    · rcases List.mem_cons.mp hm with z | hm
      · subst z
        exact absurd (show (a, q).fst ∈ List.map Prod.fst r from List.mem_map.mpr ⟨p, (by assumption), e⟩) h.1
      · exact ih h.2 hm p hp e
theorem Wt.imp {K : PySem.W.Frag} {E : XK} {e : EW} {c : TT} {ρ : List (Option D)} {B : Int} {k k' : Bool → Int → Prop} (h : Wt K E e c ρ B k) (f : ∀ b B', k b B' → k' b B') : Wt K E e c ρ B k' :=
  fun σ H G Q s en x q => h σ H G Q s en x fun b B' G' H' hk => q b B' G' H' (f b B' hk)
/-- blocks of a compound statement -/
def ifB : Stmt → List Stmt
  | .If _ b _ _ => b
  | _ => []
def ifO : Stmt → List Stmt
  | .If _ _ o _ => o
  | _ => []
def forB : Stmt → List Stmt
  | .For _ _ b _ _ => b
  | _ => []
end AW

set_option linter.all false
set_option maxRecDepth 100000
set_option maxHeartbeats 4000000
namespace AW
open PySem PySem.Spec PyProof.Rows L2 RZ
variable [Tbs]
/-! zip in comprehensions and loops, tuple(..), pairs compared, lists that are owned for a while -/
section
abbrev ItzG (Sq : Hp → Addr → List V → Prop) (a b : Addr) : It :=
  ⟨fun i H => ∃ (xs ys : List V) (x y : V), Sq H a xs ∧ Sq H b ys ∧ xs[i]? = some x ∧ ys[i]? = some y,
    fun i H v H' => ∃ T x y, v = .ref T ∧ H T = none ∧ H' = upd H T (.tup [x, y]) ∧ (∀ xs, Sq H a xs → xs[i]? = some x) ∧ ∀ ys, Sq H b ys → ys[i]? = some y,
    fun i H => ∃ xs ys : List V, Sq H a xs ∧ Sq H b ys ∧ (xs.length ≤ i ∨ ys.length ≤ i)⟩
theorem lc_zip {Sq : Hp → Addr → List V → Prop} {a b : Addr} {xs ys : List V} (hl : xs.length = ys.length) {g : TG} {tt : TT} {te : TE} {vs : List Nat} {σ : L2.St} {H1 : Hp} {D : Addr} {Qd : Hp → Prop} (Pv : Nat → Hp → Prop) (h0 : Pv 0 (upd H1 D (.lst []))) (hq : ∀ i H, i ≤ xs.length → Pv i H → Sq H a xs ∧ Sq H b ys)
    (hs : ∀ i x y T H, xs[i]? = some x → ys[i]? = some y → Pv i H → H T = none → g (.ref T) (wipe σ vs) (upd H T (.tup [x, y])) fun σ2 H2 => wipe σ2 vs = wipe σ vs ∧ tt σ2 H2 fun b H3 =>
      if b = true then te σ2 H3 fun y H4 => ∃ acc, H4 D = some (.lst acc) ∧ acc.length < sizeLine ∧ Pv (i + 1) (upd H4 D (.lst (acc ++ [y]))) else Pv (i + 1) H3) (hd : ∀ H, Pv xs.length H → Qd H) :
    ∃ W : Nat → Nat → Hp → Prop, (∃ m, W 0 m (upd H1 D (.lst []))) ∧ ∀ i m H, W i m H →
      ((ItzG Sq a b).stop i H ∧ Qd H) ∨ ((ItzG Sq a b).go i H ∧ ∃ Nx : Hp → Prop, (∀ H', Nx H' → ∃ m', m' < m ∧ W (i + 1) m' H') ∧ ∀ x H', (ItzG Sq a b).yld i H x H' → g x (wipe σ vs) H' fun σ2 H2 => wipe σ2 vs = wipe σ vs ∧ tt σ2 H2 fun b H3 =>
        if b = true then te σ2 H3 fun y H4 => ∃ acc, H4 D = some (.lst acc) ∧ acc.length < sizeLine ∧ Nx (upd H4 D (.lst (acc ++ [y]))) else Nx H3) := by
  refine ⟨fun i m H => m = xs.length - i ∧ i ≤ xs.length ∧ Pv i H, ⟨xs.length, rfl, Nat.zero_le _, h0⟩, ?_⟩
  rintro i m H ⟨rfl, hi, p⟩
  obtain ⟨qx, qy⟩ := hq i H hi p
  by_cases hlt : i < xs.length
  · have hx : xs[i]? = some xs[i] := List.getElem?_eq_getElem hlt
    have hlt2 : i < ys.length := by omega
    have hy : ys[i]? = some ys[i] := List.getElem?_eq_getElem hlt2
    refine .inr ⟨⟨xs, ys, _, _, qx, qy, hx, hy⟩, Pv (i + 1), fun H' p' => ⟨xs.length - (i + 1), by omega, rfl, hlt, p'⟩, fun v H' y => ?_⟩
    obtain ⟨T, x', y', rfl, hT, rfl, f1, f2⟩ := y
    exact hs i x' y' T H (f1 xs qx) (f2 ys qy) p hT
  · have e : i = xs.length := by omega
    subst e
    exact .inl ⟨⟨xs, ys, qx, qy, Or.inl (Nat.le_refl _)⟩, hd H p⟩
theorem set_two {α : Type} (σ : List α) {i j : Nat} (hij : i ≠ j) (u v w z : α) : ((((((σ.set j z).set i z).set i v).set j w).set j z).set i z) = (σ.set j z).set i z := by
  apply List.ext_getElem?
  intro n
  simp only [List.getElem?_set, List.length_set]
  split <;> split <;> simp_all
variable {K : PySem.W.Frag} {E E' E1 : XK} {e : EW} {ρ : List (Option D)} {B : Int} {k : KD} {κ : KS} {ta tb tl te : TE} {t : TA} {us ts : TS} {pr : Pr} {i j sl : Nat} {ds : List D}
theorem zip_step {f : D → D → D} {xs ys : List D} {n : Nat} {x y : D} (hx : xs[n]? = some x) (hy : ys[n]? = some y) : (List.zipWith f xs ys).take n ++ [f x y] = (List.zipWith f xs ys).take (n + 1) := by
  have hm : (List.zipWith f xs ys)[n]? = some (f x y) := by rw [List.getElem?_zipWith, hx, hy]
  rw [List.take_add_one, hm]
  rfl
theorem lc_zipD {Sq : Hp → Addr → List V → Prop} {a b : Addr} {xs ys : List D} {us ws : List V} {G H G1 H1 : Hp} {B1 : Int} {σ : L2.St} {Q : VK} {f : D → D → D} (hij : i ≠ j) (e1 : Ext G H B G1 H1 B1) (en : EnvR K G1 B1 ρ σ) (q : KOk K k Q G H B)
    (hkeep : ∀ G' H' B', Ext G1 H1 B1 G' H' B' → Sq H' a us ∧ Sq H' b ws) (hr : RepL K G1 B1 xs us) (hw : RepL K G1 B1 ys ws) (hl : xs.length = ys.length) (hz : xs.length < sizeLine)
    (hs : ∀ (n : Nat) (x y : D), xs[n]? = some x → ys[n]? = some y → ∀ k' : KD, k' (f x y) B1 → We K E1 noE te ((((ρ.set j none).set i none).set i (some x)).set j (some y)) B1 k') (hk : k (.lst (List.zipWith f xs ys)) B1) (D : Addr) (nD : H1 D = none) :
    ∃ W : Nat → Nat → Hp → Prop, (∃ m, W 0 m (upd H1 D (.lst []))) ∧ ∀ n m H, W n m H →
      ((ItzG Sq a b).stop n H ∧ Q (.ref D) H) ∨ ((ItzG Sq a b).go n H ∧ ∃ Nx : Hp → Prop, (∀ H', Nx H' → ∃ m', m' < m ∧ W (n + 1) m' H') ∧ ∀ x H', (ItzG Sq a b).yld n H x H' → gTup K 2 (gCons (gName i) (gCons (gName j) gNil)) x (wipe σ [i, j]) H' fun σ2 H2 => wipe σ2 [i, j] = wipe σ [i, j] ∧ tYes σ2 H2 fun b H3 =>
        if b = true then te σ2 H3 fun y H4 => ∃ acc, H4 D = some (.lst acc) ∧ acc.length < sizeLine ∧ Nx (upd H4 D (.lst (acc ++ [y]))) else Nx H3) := by
  have hul : us.length = ws.length := by rw [← hr.length, ← hw.length]; exact hl
  refine lc_zip (Sq := Sq) (xs := us) (ys := ws) hul (fun n H' => LcOk K (fun out B => out = (List.zipWith f xs ys).take n ∧ B = B1) D G1 H1 B1 H') (lc_start e1.sub nD ⟨by simp, rfl⟩) (fun n H' _ z => ?_) ?_ ?_
  · obtain ⟨out, B', G', acc, hI, e2, gL, hL, hr2⟩ := z
    exact hkeep G' H' B' e2
  · intro n v w T H' hv hw2 hP hT
    obtain ⟨x, hx, rx⟩ := hr.get' hv
    obtain ⟨y, hy, ry⟩ := hw.get' hw2
    obtain ⟨out, B', G', acc, ⟨eo, eB⟩, e2, gL, hL, hr2⟩ := hP
    subst eB
    refine ⟨T, [v, w], rfl, SqT.of upd_same, rfl, v, [w], rfl, w, [], rfl, rfl, ?_, ?_⟩
    · show ((((((σ.set j none).set i none).set i (some v)).set j (some w)).set j none).set i none) = (σ.set j none).set i none
      exact set_two σ hij (some v) (some v) (some w) none
    · have hTD : D ≠ T := ne_of_none hL hT
      have e3 : Ext G' H' B' G' (upd H' T (.tup [v, w])) B' := Ext.hid e2.sub hT
      have e23 := e2.trans e3
      have en2 : EnvR K G' B' ((((ρ.set j none).set i none).set i (some x)).set j (some y)) ((((σ.set j none).set i none).set i (some v)).set j (some w)) := EnvR.set (ry.mono e2.le) j (EnvR.set (rx.mono e2.le) i (EnvR.wipe1 i (EnvR.wipe1 j (en.mono e2.le))))
      refine hs n x y hx hy (fun d B2 => d = f x y ∧ B2 = B') ⟨rfl, rfl⟩ _ _ G' _ e3.sub en2 XOk.no fun d u B4 G4 H4 ⟨ed, eB⟩ e4 r4 => ?_
      subst ed eB
      have hL2 : upd H' T (.tup [v, w]) D = some (.lst acc) := by rw [upd_ne hTD]; exact hL
      obtain ⟨z1, z2⟩ := e4.fr D _ hL2 gL (fun _ z => nomatch z)
      have hlen : acc.length < sizeLine := by
        rw [← hr2.length, eo, List.length_take, List.length_zipWith]
        omega
      refine ⟨acc, z1, hlen, out ++ [f x y], B4, G4, acc ++ [u], ⟨by rw [eo]; exact zip_step hx hy, rfl⟩, ?_, z2, upd_same, (hr2.mono e4.le).append ⟨u, [], rfl, r4, rfl⟩⟩
      have eA := e23.trans e4
      refine ⟨eA.le, fun a o z => ?_, fun a o z n t => ?_⟩
      · have : a ≠ D := fun q => by rw [q, z2] at z; cases z
        rw [upd_ne this]; exact eA.sub _ _ z
      · have : a ≠ D := ne_of_none z nD
        rw [upd_ne this]
        exact eA.fr _ _ z n t
  · intro H' hz2
    refine lc_end e1 nD hz2 (fun out B' hI => ?_) q
    obtain ⟨eo, eB⟩ := hI
    subst eB
    have : (List.zipWith f xs ys).take us.length = List.zipWith f xs ys := List.take_of_length_le (by rw [List.length_zipWith, ← hr.length]; omega)
    rw [eo, this]
    exact hk
/-- [f(x, y) for x, y in zip(tuple, tuple)] -/
theorem we_lc_zipT (hij : i ≠ j) (h : Wa K E e t ρ B fun as B1 => ∃ xs ys : List D, as = [.tup xs, .tup ys] ∧ xs.length = ys.length ∧ xs.length < sizeLine ∧ ∃ f : D → D → D, (∀ (n : Nat) (x y : D), xs[n]? = some x → ys[n]? = some y → ∀ k' : KD, k' (f x y) B1 → We K E1 noE te ((((ρ.set j none).set i none).set i (some x)).set j (some y)) B1 k') ∧ k (.lst (List.zipWith f xs ys)) B1) :
    We K E e (tLc (iZipA K t) (gTup K 2 (gCons (gName i) (gCons (gName j) gNil))) tYes te [i, j]) ρ B k := fun σ H G Q s en x q =>
  h σ H G _ s en x fun as vs B1 G1 H1 ⟨xs, ys, ed, hl, hz, f, hs, hk⟩ e1 r1 => by
    subst ed
    obtain ⟨_, _, rfl, ⟨a, us, rfl, ha, hr⟩, _, _, rfl, ⟨b, ws, rfl, hb, hw⟩, rfl⟩ := r1
    have kp : ∀ G' H' B', Ext G1 H1 B1 G' H' B' → SqT K H' a us ∧ SqT K H' b ws := fun G' H' B' e2 => ⟨(Le.of_sub (B := B) (B' := B) e2.sub (Int.le_refl _)).seqT (e2.le.seqT ha), (Le.of_sub (B := B) (B' := B) e2.sub (Int.le_refl _)).seqT (e2.le.seqT hb)⟩
    obtain ⟨k1, k2⟩ := kp _ _ _ (Ext.refl e1.sub)
    exact ⟨a, b, us, ws, rfl, .inr ⟨k1, k2, fun D nD => lc_zipD (Sq := SqT K) hij e1 (en.mono e1.le) q kp hr hw hl hz hs hk D nD⟩⟩
theorem we_lc_zipL (hij : i ≠ j) (h : Wa K E e t ρ B fun as B1 => ∃ xs ys : List D, as = [.lst xs, .lst ys] ∧ xs.length = ys.length ∧ xs.length < sizeLine ∧ ∃ f : D → D → D, (∀ (n : Nat) (x y : D), xs[n]? = some x → ys[n]? = some y → ∀ k' : KD, k' (f x y) B1 → We K E1 noE te ((((ρ.set j none).set i none).set i (some x)).set j (some y)) B1 k') ∧ k (.lst (List.zipWith f xs ys)) B1) :
    We K E e (tLc (iZipA K t) (gTup K 2 (gCons (gName i) (gCons (gName j) gNil))) tYes te [i, j]) ρ B k := fun σ H G Q s en x q =>
  h σ H G _ s en x fun as vs B1 G1 H1 ⟨xs, ys, ed, hl, hz, f, hs, hk⟩ e1 r1 => by
    subst ed
    obtain ⟨_, _, rfl, ⟨a, us, rfl, ha, hr⟩, _, _, rfl, ⟨b, ws, rfl, hb, hw⟩, rfl⟩ := r1
    have kp : ∀ G' H' B', Ext G1 H1 B1 G' H' B' → SqL K H' a us ∧ SqL K H' b ws := fun G' H' B' e2 => ⟨SqL.of (e2.sub _ _ (e2.le.keep _ _ ha nopen_lst)), SqL.of (e2.sub _ _ (e2.le.keep _ _ hb nopen_lst))⟩
    obtain ⟨k1, k2⟩ := kp _ _ _ (Ext.refl e1.sub)
    exact ⟨a, b, us, ws, rfl, .inl ⟨k1, k2, fun D nD => lc_zipD (Sq := SqL K) hij e1 (en.mono e1.le) q kp hr hw hl hz hs hk D nD⟩⟩
/-- tuple(list) -/
theorem we_tupleL (h : Wa K E e t ρ B fun ds B1 => ∃ xs : List D, ds = [.lst xs] ∧ k (.tup xs) B1) :
    We K E e (tCB (fun xs H Q => ∃ p ys, xs = [.ref p] ∧ ((SqL K H p ys ∧ ∀ l, H l = none → Q (.ref l) (upd H l (.tup ys))) ∨ (SqT K H p ys ∧ Q (.ref p) H))) t) ρ B k :=
  we_cb fun σ H G Q s en x q => h σ H G Q s en x fun ds vs B1 G1 H1 ⟨xs, ed, h1⟩ e1 r1 => q ds vs B1 G1 H1 (fun ws H2 G2 Q2 s2 r2 q2 => by
    subst ed
    obtain ⟨v, _, rfl, ⟨a, us, rfl, ha, hr⟩, rfl⟩ := r2
    exact ⟨a, us, rfl, .inl ⟨SqL.of (s2 _ _ ha), fun l nl => q2 _ _ _ _ _ h1 (Ext.new s2 nl) ⟨l, us, rfl, SqT.of upd_same, hr.mono (Ext.new (B := B1) s2 nl).le⟩⟩⟩) e1 r1
theorem RepL.ints_inv {G : Hp} : ∀ {ns : List Int} {vs : List V}, RepL K G B (ns.map D.int) vs → vs = ns.map V.int
  | [], _, h => h
  | n :: ns, _, ⟨v, r, e, h, hr⟩ => by rw [e, show v = _ from h, RepL.ints_inv (ns := ns) hr]; rfl
theorem ro_ltT {ns ms : List Int} (h : k (.bl (HT.lexLt ns ms)) B) : Ro K E e (rLtT K) (.tup (ns.map D.int)) (.tup (ms.map D.int)) B k := fun x y H G Q s r1 r2 _ q => by
  obtain ⟨a, vs, rfl, ha, hr⟩ := r1
  obtain ⟨b, ws, rfl, hb, hw⟩ := r2
  rw [RepL.ints_inv hr] at ha
  rw [RepL.ints_inv hw] at hb
  have le : Le G B H B := Le.of_sub s (Int.le_refl _)
  exact ⟨a, b, ns, ms, rfl, rfl, le.seqT ha, le.seqT hb, q _ _ _ _ _ h (Ext.refl s) rfl⟩
/-! ### a list owned for a while -/
theorem wb_lcRange (hi : i < ρ.length) (h : Wa K E e t ρ B fun as B1 => ∃ n : Int, as = [.int n] ∧ -(2 ^ 62) ≤ n ∧ n < 2 ^ 62 ∧ n.toNat < sizeLine ∧ ∃ I : Nat → List D → Int → Prop, I 0 [] B1 ∧
    (∀ (m : Nat) out B', m < n.toNat → I m out B' → We K E1 noE te ((ρ.set sl none).set sl (some (.int (0 + m)))) B' fun y B4 => I (m + 1) (out ++ [y]) B4) ∧
    ∀ out B', I n.toNat out B' → Wsb K E e us (ρ.set i none) B' i out κ) :
    Ws K E e (tSeq (tAsg (tLc (iRng1 t) (gName sl) tYes te [sl]) (gName i)) us) ρ B κ := fun σ H G Dn s en x q =>
  h σ H G _ s en x fun as vs B1 G1 H1 ⟨n, ed, j0, j1, jl, I, i0, hs, hd⟩ e1 r1 => by
    subst ed
    obtain ⟨v, _, rfl, rv, rfl⟩ := r1
    rw [show v = _ from rv]
    refine ⟨n, rfl, j0, j1, fun L nL => ?_⟩
    refine lc_range (fun m H' => LcOk K (fun out B => out.length ≤ m ∧ I m out B) L G1 H1 B1 H') (lc_start e1.sub nL ⟨Nat.le_refl _, i0⟩) ?_ ?_
    · intro m H' hi hz
      exact lc_step nL e1.sub (en.mono e1.le) hz (by omega) (d := .int (0 + m)) rfl (fun out B' hI => wt_yes ⟨fun _ => hs m out B' hi hI, fun z => nomatch z⟩)
    · intro H' hz
      obtain ⟨out, B', G', acc, hI, e2, gL, hL, hr⟩ := hz
      have en1 : EnvR K G' B' (ρ.set i none) (σ.set i (some (.ref L))) := EnvR.weakAt i (en.mono (e1.trans e2).le)
      refine hd out B' hI.2 _ H' G' Dn G1 H1 B1 L acc e2.sub en1 ?_ nL gL hL hr e2 (x.ext e1) (q.ext e1)
      rw [List.getElem?_set_self (by rw [← en.len]; exact hi)]
theorem wb_if {c : TT} (h : Wt K E e c ρ B fun b B1 => (b = true → Wsb K E e (tSeq ts us) ρ B1 i ds κ) ∧ (b = false → Wsb K E e us ρ B1 i ds κ)) : Wsb K E e (tSeq (tIfS c ts tNext) us) ρ B i ds κ := fun σ H G Dn G0 H0 B0 p vs s en hp np gp hL hr ex x q => by
  refine h σ H G _ s en (x.ext ex) fun b B1 G1 H1 hb e1 => ?_
  obtain ⟨z1, z2⟩ := e1.fr p _ hL gp (fun _ z => nomatch z)
  cases b with
  | true => exact hb.1 rfl σ H1 G1 Dn G0 H0 B0 p vs e1.sub (en.mono e1.le) hp np z2 z1 (hr.mono e1.le) (ex.trans e1) x q
  | false => exact hb.2 rfl σ H1 G1 Dn G0 H0 B0 p vs e1.sub (en.mono e1.le) hp np z2 z1 (hr.mono e1.le) (ex.trans e1) x q
/-- y = e, no look at the list -/
theorem wb_set (hij : j ≠ i) (h : We K E e ta ρ B fun d B1 => Wsb K E e us (ρ.set j (some d)) B1 i ds κ) : Wsb K E e (tSeq (tAsg ta (gName j)) us) ρ B i ds κ := fun σ H G Dn G0 H0 B0 p vs s en hp np gp hL hr ex x q => by
  refine h σ H G _ s en (x.ext ex) fun d v B1 G1 H1 hb e1 rv => ?_
  obtain ⟨z1, z2⟩ := e1.fr p _ hL gp (fun _ z => nomatch z)
  exact hb _ H1 G1 Dn G0 H0 B0 p vs e1.sub (EnvR.set rv j (en.mono e1.le)) (by rw [List.getElem?_set_ne hij]; exact hp) np z2 z1 (hr.mono e1.le) (ex.trans e1) x q
theorem wb_par {j l : Nat} (hij : j ≠ i) (hil : l ≠ i) (h : Wa K E e t ρ B fun as B1 => ∃ a b, as = [a, b] ∧ Wsb K E e us ((ρ.set j (some a)).set l (some b)) B1 i ds κ) : Wsb K E e (tSeq (tPar j l t) us) ρ B i ds κ := fun σ H G Dn G0 H0 B0 p vs s en hp np gp hL hr ex x q => by
  refine h σ H G _ s en (x.ext ex) fun as ws B1 G1 H1 ⟨a, b, ea, hb⟩ e1 rv => ?_
  subst ea
  obtain ⟨v, _, rfl, ra, u, _, rfl, rb, rfl⟩ := rv
  obtain ⟨z1, z2⟩ := e1.fr p _ hL gp (fun _ z => nomatch z)
  exact ⟨v, u, rfl, hb _ H1 G1 Dn G0 H0 B0 p vs e1.sub (EnvR.set rb l (EnvR.set ra j (en.mono e1.le))) (by rw [List.getElem?_set_ne hil, List.getElem?_set_ne hij]; exact hp) np z2 z1 (hr.mono e1.le) (ex.trans e1) x q⟩
/-- y = e with a look at the list; the value is a list of integers of another length -/
theorem wb_setR (hij : j ≠ i) (hi : i < ρ.length) (h : We K E e ta (ρ.set i (some (.lst ds))) B fun d B1 => ∃ ns : List Int, d = .lst (ns.map D.int) ∧ ns.length ≠ ds.length ∧ Wsb K E e us (ρ.set j (some d)) B1 i ds κ) : Wsb K E e (tSeq (tAsg ta (gName j)) us) ρ B i ds κ := fun σ H G Dn G0 H0 B0 p vs s en hp np gp hL hr ex x q => by
  have le : Le G B (upd G p (.lst vs)) B := Le.of_sub (fun a o z => by rw [upd_ne (ne_of_none z gp)]; exact z) (Int.le_refl _)
  have sp : Sub (upd G p (.lst vs)) H := fun a o z => by
    by_cases w : a = p
    · subst w; rw [upd_same] at z; cases z; exact hL
    · rw [upd_ne w] at z; exact s _ _ z
  have e0 : Ext G0 H0 B0 (upd G p (.lst vs)) H B := ⟨ex.le.trans le, sp, fun a o z n t => by
    rw [upd_ne (ne_of_none z np)]
    exact ex.fr _ _ z n t⟩
  have en1 := EnvR.set (d := .lst ds) (v := .ref p) ⟨p, vs, rfl, upd_same, hr.mono le⟩ i (en.mono le)
  have es : σ.set i (some (V.ref p)) = σ := by
    apply List.ext_getElem?
    intro m
    rw [List.getElem?_set]
    by_cases hj : i = m
    · subst hj
      rw [if_pos rfl, hp]
      split
      · rfl
      · have hl := en.len
        omega
    · rw [if_neg hj]
  rw [es] at en1
  refine h σ H _ _ sp en1 (x.ext e0) fun d v B1 G1 H1 ⟨ns, ed, hn, hb⟩ e1 rv => ?_
  subst ed
  obtain ⟨a, us2, rfl, ga, hra⟩ := rv
  have gp1 : G1 p = some (.lst vs) := e1.le.keep p _ upd_same nopen_lst
  have hap : a ≠ p := fun z => by
    subst z
    rw [gp1] at ga
    injection ga with ga
    injection ga with ga
    have l1 := hra.length
    have l2 := hr.length
    rw [List.length_map] at l1
    rw [ga] at l2
    omega
  let G2 : Hp := fun b => if b = p then none else G1 b
  have g2 : ∀ b, b ≠ p → G2 b = G1 b := fun b hb => if_neg hb
  have g2p : G2 p = none := if_pos rfl
  have s2 : Sub G2 H1 := fun b o z => by
    by_cases w : b = p
    · rw [w, g2p] at z; cases z
    · rw [g2 b w] at z; exact e1.sub _ _ z
  have le2 : Le G B G2 B1 := by
    refine ⟨e1.le.b, fun b o z n => ?_, fun b k l c m r z => ?_, fun z p' hp' => ?_⟩
    · have w : b ≠ p := ne_of_none z gp
      rw [g2 b w]
      exact e1.le.keep b o (by rw [upd_ne w]; exact z) n
    · have w : b ≠ p := ne_of_none z gp
      rw [g2 b w]
      exact e1.le.pen b k l c m r (by rw [upd_ne w]; exact z)
    · obtain ⟨ps, t1, t2, t3⟩ := e1.le.tb (le.tb z) p' hp'
      refine ⟨ps, ?_, t2, fun pos cv hc => ?_⟩
      · rw [g2 _ fun w => by rw [w, gp1] at t1; cases t1]; exact t1
      · obtain ⟨c, y1, y2⟩ := t3 pos cv hc
        refine ⟨c, y1, ?_⟩
        rw [g2 _ fun w => by rw [w, gp1] at y2; unfold LamX.CodeO at y2; cases y2]; exact y2
  have e2 : Ext G0 H0 B0 G2 H1 B1 := ⟨ex.le.trans le2, s2, fun b o z n t => by
    have eA := e0.trans e1
    obtain ⟨y1, y2⟩ := eA.fr b o z n t
    refine ⟨y1, ?_⟩
    rw [g2 b (ne_of_none z np)]
    exact y2⟩
  have rv2 : Rep K G2 B1 (.lst (ns.map D.int)) (.ref a) := ⟨a, us2, rfl, by rw [g2 a hap]; exact ga, by rw [RepL.ints_inv hra]; exact RepL.ints ns⟩
  exact hb _ H1 G2 Dn G0 H0 B0 p vs s2 (EnvR.set rv2 j (en.mono le2)) (by rw [List.getElem?_set_ne hij]; exact hp) np g2p (e1.sub _ _ gp1) (hr.mono le2) e2 x q
/-- x[n] = e, no look at the list in e -/
theorem wb_item {n : Nat} {c : Int} (hc : c = n) (hn : n < ds.length) (h : We K E e ta ρ B fun d B1 => Wsb K E e us ρ B1 i (ds.set n d) κ) : Wsb K E e (tSeq (tAsg ta (gSub (tVar i) (tC (.int c)) rSetL)) us) ρ B i ds κ := fun σ H G Dn G0 H0 B0 p vs s en hp np gp hL hr ex x q => by
  subst hc
  refine h σ H G _ s en (x.ext ex) fun d v B1 G1 H1 hb e1 rv => ?_
  obtain ⟨z1, z2⟩ := e1.fr p _ hL gp (fun _ z => nomatch z)
  have hvl : ds.length = vs.length := hr.length
  have hix : ixN vs.length (n : Int) = some n := by
    unfold ixN
    rw [if_pos (by omega), if_pos (by omega), Int.toNat_natCast]
  refine ⟨.ref p, hp, p, vs, (n : Int), n, rfl, rfl, z1, hix, ?_⟩
  have hset : RepL K G1 B1 (ds.set n d) (vs.set n v) := by
    have z : ∀ (ds : List D) (vs : List V) (n : Nat), RepL K G1 B1 ds vs → RepL K G1 B1 (ds.set n d) (vs.set n v) := by
      intro ds
      induction ds with
      | nil => intro vs n h; rw [show vs = [] from h]; exact rfl
      | cons d0 r ih =>
        intro vs n h
        obtain ⟨v0, w, rfl, h0, h1⟩ := h
        cases n with
        | zero => exact ⟨v, w, rfl, rv, h1⟩
        | succ n => exact ⟨v0, w.set n v, rfl, h0, ih w n h1⟩
    exact z ds vs n (hr.mono e1.le)
  have eA := ex.trans e1
  refine hb σ _ G1 Dn G0 H0 B0 p _ (fun a o z => ?_) (en.mono e1.le) hp np z2 upd_same hset ⟨eA.le, fun a o z => ?_, fun a o z n t => ?_⟩ x q
  · rw [upd_ne (ne_of_none z z2)]; exact e1.sub _ _ z
  · rw [upd_ne (ne_of_none z z2)]; exact e1.sub _ _ z
  · rw [upd_ne (ne_of_none z np)]; exact eA.fr _ _ z n t
end
end AW

set_option linter.all false
set_option maxRecDepth 100000
set_option maxHeartbeats 4000000
namespace AW
open PySem PySem.Spec PyProof.Rows L2 RZ
variable [Tbs]
/-! statements while a list is owned (Wso); zip in a for; min of tuples; a list unpacked; isinstance(.., list) -/
section
/-- ends of a statement, the owned list's items told -/
structure KO where
  nx : List (Option D) → List D → Int → Prop := fun _ _ _ => False
  rt : KD
  bk : List (Option D) → List D → Int → Prop := fun _ _ _ => False
  ct : List (Option D) → List D → Int → Prop := fun _ _ _ => False
def OOk (K : PySem.W.Frag) (k : List (Option D) → List D → Int → Prop) (Q : L2.St → Hp → Prop) (i : Nat) (p : Addr) (G0 H0 : Hp) (B0 : Int) : Prop := ∀ ρ ds σ B G H vs, k ρ ds B → Ext G0 H0 B0 G H B → EnvR K G B ρ σ → σ[i]? = some (some (.ref p)) → G p = none → H p = some (.lst vs) → RepL K G B ds vs → Q σ H
structure OEnds (K : PySem.W.Frag) (κ : KO) (Dn : Ends) (i : Nat) (p : Addr) (G0 H0 : Hp) (B0 : Int) : Prop where
  nx : OOk K κ.nx Dn.nx i p G0 H0 B0
  rt : KOk K κ.rt Dn.rt G0 H0 B0
  bk : OOk K κ.bk Dn.bk i p G0 H0 B0
  ct : OOk K κ.ct Dn.ct i p G0 H0 B0
/-- a statement while the list at slot i is owned: its items are ds -/
def Wso (K : PySem.W.Frag) (E : XK) (e : EW) (t : TS) (ρ : List (Option D)) (B : Int) (i : Nat) (ds : List D) (κ : KO) : Prop :=
  ∀ σ H G Dn G0 H0 B0 p vs, Sub G H → EnvR K G B ρ σ → σ[i]? = some (some (.ref p)) → H0 p = none → G p = none → H p = some (.lst vs) → RepL K G B ds vs → Ext G0 H0 B0 G H B → XOk K E e G0 H0 B0 → OEnds K κ Dn i p G0 H0 B0 → t Dn σ H
variable {K : PySem.W.Frag} {E E' E1 : XK} {e : EW} {ρ : List (Option D)} {B : Int} {k : KD} {κ : KS} {κo : KO} {ta tb tl te : TE} {t : TA} {s us ts tbody : TS} {pr : Pr} {i j sl : Nat} {ds : List D} {g : TG}
theorem wb_wso (h : Wso K E e s ρ B i ds { nx := fun ρ' ds' B' => Wsb K E e us ρ' B' i ds' κ, rt := κ.rt }) : Wsb K E e (tSeq s us) ρ B i ds κ := fun σ H G Dn G0 H0 B0 p vs sb en hp np gp hL hr ex x q =>
  h σ H G { Dn with nx := us Dn } G0 H0 B0 p vs sb en hp np gp hL hr ex x ⟨fun ρ' ds' σ' B' G' H' vs' hb ex' en' hp' gp' hL' hr' => hb σ' H' G' Dn G0 H0 B0 p vs' ex'.sub en' hp' np gp' hL' hr' ex' x q, q.rt, fun _ _ _ _ _ _ _ z => z.elim, fun _ _ _ _ _ _ _ z => z.elim⟩
theorem wo_seq (h : Wso K E e s ρ B i ds { κo with nx := fun ρ' ds' B' => Wso K E e us ρ' B' i ds' κo }) : Wso K E e (tSeq s us) ρ B i ds κo := fun σ H G Dn G0 H0 B0 p vs sb en hp np gp hL hr ex x q =>
  h σ H G { Dn with nx := us Dn } G0 H0 B0 p vs sb en hp np gp hL hr ex x ⟨fun ρ' ds' σ' B' G' H' vs' hb ex' en' hp' gp' hL' hr' => hb σ' H' G' Dn G0 H0 B0 p vs' ex'.sub en' hp' np gp' hL' hr' ex' x q, q.rt, q.bk, q.ct⟩
theorem wo_next (h : κo.nx ρ ds B) : Wso K E e tNext ρ B i ds κo := fun σ H G Dn G0 H0 B0 p vs sb en hp np gp hL hr ex x q => q.nx _ _ _ _ _ _ _ h ex en hp gp hL hr
theorem wo_app (h : We K E e ta ρ B fun d B1 => ds.length < sizeLine ∧ κo.nx ρ (ds ++ [d]) B1) : Wso K E e (tDrop (tBM K "list" rAppend (tVar i) (tCons ta tNil))) ρ B i ds κo := fun σ H G Dn G0 H0 B0 p vs s en hp np gp hL hr ex x q => by
  refine ⟨.ref p, hp, ?_, ?_⟩
  · exact .inl ⟨rfl, vs, SqL.of hL⟩
  · refine h σ H G _ s en (x.ext ex) fun d v B1 G1 H1 ⟨hl, h1⟩ e1 r1 => ?_
    obtain ⟨z1, z2⟩ := e1.fr p _ hL gp (fun _ z => nomatch z)
    refine ⟨p, vs, v, rfl, rfl, z1, by rw [← hr.length]; exact hl, ?_⟩
    have eA := ex.trans e1
    refine q.nx _ _ σ B1 G1 (upd H1 p (.lst (vs ++ [v]))) (vs ++ [v]) h1 ⟨eA.le, fun a o z => ?_, fun a o z n t => ?_⟩ (en.mono e1.le) hp z2 upd_same ((hr.mono e1.le).append ⟨v, [], rfl, r1, rfl⟩)
    · rw [upd_ne (ne_of_none z z2)]; exact e1.sub _ _ z
    · rw [upd_ne (ne_of_none z np)]; exact eA.fr _ _ z n t
theorem set_id {α : Type} {σ : List α} {i : Nat} {a : α} (h : σ[i]? = some a) : σ.set i a = σ := by
  apply List.ext_getElem?
  intro m
  rw [List.getElem?_set]
  by_cases hj : i = m
  · subst hj
    rw [if_pos rfl, h]
    split
    · rfl
    · have := (List.getElem?_eq_some_iff.mp h).1
      omega
  · rw [if_neg hj]
theorem env_own {G : Hp} {σ : L2.St} {p : Addr} (en : EnvR K G B ρ σ) (hp : σ[i]? = some (some (.ref p))) : EnvR K G B (ρ.set i (some (.val (.ref p)))) σ := by
  have := EnvR.set (d := .val (.ref p)) (v := .ref p) rfl i en
  rw [set_id hp] at this
  exact this
theorem env_lose {G : Hp} {σ : L2.St} (en : EnvR K G B ρ σ) {v : V} (hp : σ[i]? = some (some v)) : EnvR K G B (ρ.set i none) σ := by
  have := EnvR.weakAt (x := some v) i en
  rw [set_id hp] at this
  exact this
theorem env_ref {G : Hp} {σ : L2.St} {p : Addr} (en : EnvR K G B ρ σ) (h : ρ[i]? = some (some (.val (.ref p)))) : σ[i]? = some (some (.ref p)) := by
  obtain ⟨v, h1, r⟩ := en.get h
  rw [show v = _ from r] at h1
  exact h1
/-- a statement that does not look at the list -/
theorem wo_ws (h : ∀ p : Addr, Ws K E e s (ρ.set i (some (.val (.ref p)))) B { nx := fun ρ' B' => ρ'[i]? = some (some (.val (.ref p))) ∧ κo.nx (ρ'.set i none) ds B', rt := κo.rt, bk := fun ρ' B' => ρ'[i]? = some (some (.val (.ref p))) ∧ κo.bk (ρ'.set i none) ds B', ct := fun ρ' B' => ρ'[i]? = some (some (.val (.ref p))) ∧ κo.ct (ρ'.set i none) ds B' }) : Wso K E e s ρ B i ds κo := fun σ H G Dn G0 H0 B0 p vs sb en hp np gp hL hr ex x q => by
  have go : ∀ {k : List (Option D) → List D → Int → Prop} {Q : L2.St → Hp → Prop}, OOk K k Q i p G0 H0 B0 → NOk K (fun ρ' B' => ρ'[i]? = some (some (.val (.ref p))) ∧ k (ρ'.set i none) ds B') Q G H B := fun hk ρ' σ' B' G' H' ⟨h1, h2⟩ e1 en1 => by
    have hp' := env_ref en1 h1
    obtain ⟨z1, z2⟩ := e1.fr p _ hL gp (fun _ z => nomatch z)
    exact hk _ _ _ _ _ _ vs h2 (ex.trans e1) (env_lose en1 hp') hp' z2 z1 (hr.mono e1.le)
  exact h p σ H G Dn sb (env_own en hp) (x.ext ex) ⟨go q.nx, q.rt.ext ex, go q.bk, go q.ct⟩
theorem wo_if {c : TT} (h : Wt K E e c ρ B fun b B1 => (b = true → Wso K E e ts ρ B1 i ds κo) ∧ (b = false → Wso K E e us ρ B1 i ds κo)) : Wso K E e (tIfS c ts us) ρ B i ds κo := fun σ H G Dn G0 H0 B0 p vs s en hp np gp hL hr ex x q => by
  refine h σ H G _ s en (x.ext ex) fun b B1 G1 H1 hb e1 => ?_
  obtain ⟨z1, z2⟩ := e1.fr p _ hL gp (fun _ z => nomatch z)
  cases b with
  | true => exact hb.1 rfl σ H1 G1 Dn G0 H0 B0 p vs e1.sub (en.mono e1.le) hp np z2 z1 (hr.mono e1.le) (ex.trans e1) x q
  | false => exact hb.2 rfl σ H1 G1 Dn G0 H0 B0 p vs e1.sub (en.mono e1.le) hp np z2 z1 (hr.mono e1.le) (ex.trans e1) x q
/-- one round of a loop: the target, then the body -/
theorem wo_round {x : D} {G1 H1 : Hp} {B1 : Int} {p : Addr} {v : V} {σ' : L2.St} {G' H' : Hp} {B' : Int} {ρ' : List (Option D)} {ds' : List D} {vs' : List V} {Dn : Ends} {N : L2.St → Hp → Prop} {I2 : List (Option D) → List D → Int → Prop}
    (hs : ∀ p : Addr, Wg K g x (ρ'.set i (some (.val (.ref p)))) B' fun ρ2 B2 => ρ2[i]? = some (some (.val (.ref p))) ∧ Wso K E e tbody (ρ2.set i none) B2 i ds' { nx := I2, rt := κo.rt, bk := κo.nx, ct := I2 })
    (np : H1 p = none) (e2 : Ext G1 H1 B1 G' H' B') (en2 : EnvR K G' B' ρ' σ') (hp' : σ'[i]? = some (some (.ref p))) (gp' : G' p = none) (hL' : H' p = some (.lst vs')) (hr' : RepL K G' B' ds' vs') (rv : Rep K G' B' x v) (xo : XOk K E e G1 H1 B1) (q : OEnds K κo Dn i p G1 H1 B1) (hN : OOk K I2 N i p G1 H1 B1) :
    g v σ' H' fun σ2 H2 => tbody { Dn with nx := N, ct := N, bk := Dn.nx } σ2 H2 :=
  hs p v σ' H' G' _ e2.sub (env_own en2 hp') rv fun ρ2 σ2 B2 G2 H2 ⟨h1, h2⟩ e3 en3 => by
    have hp2 := env_ref en3 h1
    obtain ⟨z1, z2⟩ := e3.fr p _ hL' gp' (fun _ z => nomatch z)
    exact h2 σ2 H2 G2 _ G1 H1 B1 p vs' e3.sub (env_lose en3 hp2) hp2 np z2 z1 (hr'.mono e3.le) (e2.trans e3) xo ⟨hN, q.rt, q.nx, hN⟩
def del (H : Hp) (p : Addr) : Hp := fun b => if b = p then none else H b
theorem delD_same {H : Hp} {p : Addr} : del H p p = none := if_pos rfl
theorem delD_ne {H : Hp} {p b : Addr} (h : b ≠ p) : del H p b = H b := if_neg h
theorem Ext.base {G0 H0 G1 H1 : Hp} {B0 B1 : Int} {p : Addr} (ex : Ext G0 H0 B0 G1 H1 B1) (np : H0 p = none) (gp : G1 p = none) : Ext G0 H0 B0 G1 (del H1 p) B1 := ⟨ex.le, fun a o z => by
  rw [delD_ne (ne_of_none z gp)]; exact ex.sub _ _ z, fun a o z n t => by
  rw [delD_ne (ne_of_none z np)]; exact ex.fr _ _ z n t⟩
theorem Ext.back {G1 H1 : Hp} {B1 : Int} {p : Addr} (s : Sub G1 H1) : Ext G1 (del H1 p) B1 G1 H1 B1 := ⟨Le.of_sub (fun _ _ z => z) (Int.le_refl _), s, fun a o z n t => by
  have : a ≠ p := fun q => by rw [q, delD_same] at z; cases z
  rw [delD_ne this] at z
  exact ⟨z, n⟩⟩
theorem OOk.ext {k : List (Option D) → List D → Int → Prop} {Q : L2.St → Hp → Prop} {p : Addr} {G0 H0 G1 H1 : Hp} {B0 B1 : Int} (h : OOk K k Q i p G0 H0 B0) (ex : Ext G0 H0 B0 G1 H1 B1) : OOk K k Q i p G1 H1 B1 := fun ρ ds σ B G H vs hk e2 => h ρ ds σ B G H vs hk (ex.trans e2)
theorem OEnds.ext {p : Addr} {Dn : Ends} {G0 H0 G1 H1 : Hp} {B0 B1 : Int} (h : OEnds K κo Dn i p G0 H0 B0) (ex : Ext G0 H0 B0 G1 H1 B1) : OEnds K κo Dn i p G1 H1 B1 := ⟨h.nx.ext ex, h.rt.ext ex, h.bk.ext ex, h.ct.ext ex⟩
/-- the rounds' state -/
def OSt (K : PySem.W.Frag) (I : List (Option D) → List D → Int → Prop) (i : Nat) (p : Addr) (G1 H1 : Hp) (B1 : Int) (σ' : L2.St) (H' : Hp) : Prop := ∃ ρ' ds' B' G' vs', I ρ' ds' B' ∧ Ext G1 H1 B1 G' H' B' ∧ EnvR K G' B' ρ' σ' ∧ σ'[i]? = some (some (.ref p)) ∧ G' p = none ∧ H' p = some (.lst vs') ∧ RepL K G' B' ds' vs'
theorem OSt.ok {I : List (Option D) → List D → Int → Prop} {p : Addr} {G1 H1 : Hp} {B1 : Int} : OOk K I (OSt K I i p G1 H1 B1) i p G1 H1 B1 := fun ρ ds σ B G H vs hk e2 en hp gp hL hr => ⟨ρ, ds, B, G, vs, hk, e2, en, hp, gp, hL, hr⟩
theorem wo_for_tup (h : We K E e tl ρ B fun d B1 => ∃ xs, d = .tup xs ∧ ∃ I : Nat → List (Option D) → List D → Int → Prop, I 0 ρ ds B1 ∧ (∀ j x ρ' ds' B', xs[j]? = some x → I j ρ' ds' B' → ∀ p : Addr, Wg K g x (ρ'.set i (some (.val (.ref p)))) B' fun ρ2 B2 => ρ2[i]? = some (some (.val (.ref p))) ∧ Wso K E e tbody (ρ2.set i none) B2 i ds' { nx := I (j + 1), rt := κo.rt, bk := κo.nx, ct := I (j + 1) }) ∧ ∀ ρ' ds' B', I xs.length ρ' ds' B' → κo.nx ρ' ds' B') :
    Wso K E e (tFor (iTup K tl) g tbody) ρ B i ds κo := fun σ H G Dn G0 H0 B0 p vs sb en hp np gp hL hr ex x q => by
  refine h σ H G _ sb en (x.ext ex) fun d v B1 G1 H1 ⟨xs, ed, I, i0, hs, hd⟩ e1 r1 => ?_
  subst ed
  obtain ⟨a, ws, rfl, ha, hrw⟩ := r1
  obtain ⟨z1, z2⟩ := e1.fr p _ hL gp (fun _ z => nomatch z)
  have eb := (ex.trans e1).base np z2
  refine ⟨a, rfl, ⟨ws, (Le.of_sub (B := B) (B' := B) e1.sub (Int.le_refl _)).seqT ha⟩, ?_⟩
  refine for_tup (xs := ws) (fun j => OSt K (I j) i p G1 (del H1 p) B1) ⟨ρ, ds, B1, G1, vs, i0, Ext.back e1.sub, en.mono e1.le, hp, z2, z1, hr.mono e1.le⟩ (fun j σ' H' _ ⟨_, _, _, G', _, _, e2, _⟩ => (Le.of_sub (B := B) (B' := B) e2.sub (Int.le_refl _)).seqT (e2.le.seqT ha)) ?_ ?_
  · rintro j y σ' H' hi ⟨ρ', ds', B', G', vs', hI, e2, en2, hp', gp', hL', hr'⟩
    obtain ⟨dx, hdx, rx⟩ := hrw.get' hi
    exact wo_round (hs j dx ρ' ds' B' hdx hI) delD_same e2 en2 hp' gp' hL' hr' (rx.mono e2.le) (x.ext eb) (q.ext eb) OSt.ok
  · rintro σ' H' ⟨ρ', ds', B', G', vs', hI, e2, en2, hp', gp', hL', hr'⟩
    rw [← hrw.length] at hI
    exact q.nx _ _ _ _ _ _ _ (hd _ _ _ hI) (eb.trans e2) en2 hp' gp' hL' hr'
theorem wo_for_list (h : We K E e tl ρ B fun d B1 => ∃ xs, d = .lst xs ∧ ∃ I : Nat → List (Option D) → List D → Int → Prop, I 0 ρ ds B1 ∧ (∀ j x ρ' ds' B', xs[j]? = some x → I j ρ' ds' B' → ∀ p : Addr, Wg K g x (ρ'.set i (some (.val (.ref p)))) B' fun ρ2 B2 => ρ2[i]? = some (some (.val (.ref p))) ∧ Wso K E e tbody (ρ2.set i none) B2 i ds' { nx := I (j + 1), rt := κo.rt, bk := κo.nx, ct := I (j + 1) }) ∧ ∀ ρ' ds' B', I xs.length ρ' ds' B' → κo.nx ρ' ds' B') :
    Wso K E e (tFor (iList K tl) g tbody) ρ B i ds κo := fun σ H G Dn G0 H0 B0 p vs sb en hp np gp hL hr ex x q => by
  refine h σ H G _ sb en (x.ext ex) fun d v B1 G1 H1 ⟨xs, ed, I, i0, hs, hd⟩ e1 r1 => ?_
  subst ed
  obtain ⟨a, ws, rfl, ha, hrw⟩ := r1
  obtain ⟨z1, z2⟩ := e1.fr p _ hL gp (fun _ z => nomatch z)
  have eb := (ex.trans e1).base np z2
  refine ⟨a, rfl, ⟨ws, SqL.of (e1.sub _ _ ha)⟩, ?_⟩
  refine for_list (xs := ws) (fun j => OSt K (I j) i p G1 (del H1 p) B1) ⟨ρ, ds, B1, G1, vs, i0, Ext.back e1.sub, en.mono e1.le, hp, z2, z1, hr.mono e1.le⟩ (fun j σ' H' _ ⟨_, _, _, G', _, _, e2, _⟩ => SqL.of (e2.sub _ _ (e2.le.keep _ _ ha nopen_lst))) ?_ ?_
  · rintro j y σ' H' hi ⟨ρ', ds', B', G', vs', hI, e2, en2, hp', gp', hL', hr'⟩
    obtain ⟨dx, hdx, rx⟩ := hrw.get' hi
    exact wo_round (hs j dx ρ' ds' B' hdx hI) delD_same e2 en2 hp' gp' hL' hr' (rx.mono e2.le) (x.ext eb) (q.ext eb) OSt.ok
  · rintro σ' H' ⟨ρ', ds', B', G', vs', hI, e2, en2, hp', gp', hL', hr'⟩
    rw [← hrw.length] at hI
    exact q.nx _ _ _ _ _ _ _ (hd _ _ _ hI) (eb.trans e2) en2 hp' gp' hL' hr'
theorem wo_for_range1 (h : Wa K E e t ρ B fun as B1 => ∃ n : Int, as = [.int n] ∧ -(2 ^ 62) ≤ n ∧ n < 2 ^ 62 ∧ ∃ I : Nat → List (Option D) → List D → Int → Prop, I 0 ρ ds B1 ∧ (∀ (j : Nat) ρ' ds' B', j < n.toNat → I j ρ' ds' B' → ∀ p : Addr, Wg K g (.int (0 + j)) (ρ'.set i (some (.val (.ref p)))) B' fun ρ2 B2 => ρ2[i]? = some (some (.val (.ref p))) ∧ Wso K E e tbody (ρ2.set i none) B2 i ds' { nx := I (j + 1), rt := κo.rt, bk := κo.nx, ct := I (j + 1) }) ∧ ∀ ρ' ds' B', I n.toNat ρ' ds' B' → κo.nx ρ' ds' B') :
    Wso K E e (tFor (iRng1 t) g tbody) ρ B i ds κo := fun σ H G Dn G0 H0 B0 p vs sb en hp np gp hL hr ex x q => by
  refine h σ H G _ sb en (x.ext ex) fun as ws B1 G1 H1 ⟨n, ed, j0, j1, I, i0, hs, hd⟩ e1 r1 => ?_
  subst ed
  obtain ⟨v, _, rfl, rv, rfl⟩ := r1
  rw [show v = _ from rv]
  obtain ⟨z1, z2⟩ := e1.fr p _ hL gp (fun _ z => nomatch z)
  have eb := (ex.trans e1).base np z2
  refine ⟨n, rfl, j0, j1, ?_⟩
  refine for_range (fun j => OSt K (I j) i p G1 (del H1 p) B1) ⟨ρ, ds, B1, G1, vs, i0, Ext.back e1.sub, en.mono e1.le, hp, z2, z1, hr.mono e1.le⟩ ?_ ?_
  · rintro j σ' H' hi ⟨ρ', ds', B', G', vs', hI, e2, en2, hp', gp', hL', hr'⟩
    exact wo_round (hs j ρ' ds' B' hi hI) delD_same e2 en2 hp' gp' hL' hr' rfl (x.ext eb) (q.ext eb) OSt.ok
  · rintro σ' H' ⟨ρ', ds', B', G', vs', hI, e2, en2, hp', gp', hL', hr'⟩
    exact q.nx _ _ _ _ _ _ _ (hd _ _ _ hI) (eb.trans e2) en2 hp' gp' hL' hr'
theorem for_zip {Sq : Hp → Addr → List V → Prop} {a b : Addr} {xs ys : List V} (hl : xs.length = ys.length) {g : TG} {tb : TS} {D : Ends} {σ : L2.St} {H : Hp} (Pv : Nat → L2.St → Hp → Prop) (h0 : Pv 0 σ H) (hq : ∀ i σ H, i ≤ xs.length → Pv i σ H → Sq H a xs ∧ Sq H b ys)
    (hs : ∀ i x y T σ H, xs[i]? = some x → ys[i]? = some y → Pv i σ H → H T = none → g (.ref T) σ (upd H T (.tup [x, y])) fun σ2 H2 => tb { D with nx := Pv (i + 1), ct := Pv (i + 1), bk := D.nx } σ2 H2) (hd : ∀ σ H, Pv xs.length σ H → D.nx σ H) :
    ∃ W : Nat → Nat → L2.St → Hp → Prop, (∃ m, W 0 m σ H) ∧ ∀ i m σ H, W i m σ H →
      ((ItzG Sq a b).stop i H ∧ D.nx σ H) ∨ ((ItzG Sq a b).go i H ∧ ∃ N : L2.St → Hp → Prop, (∀ σ' H', N σ' H' → ∃ m', m' < m ∧ W (i + 1) m' σ' H') ∧ ∀ x H', (ItzG Sq a b).yld i H x H' → g x σ H' fun σ2 H2 => tb { D with nx := N, ct := N, bk := D.nx } σ2 H2) := by
  refine ⟨fun i m σ H => m = xs.length - i ∧ i ≤ xs.length ∧ Pv i σ H, ⟨xs.length, by simp, Nat.zero_le _, h0⟩, ?_⟩
  rintro i m σ H ⟨rfl, hi, p⟩
  obtain ⟨qx, qy⟩ := hq i σ H hi p
  by_cases hlt : i < xs.length
  · have hx : xs[i]? = some xs[i] := List.getElem?_eq_getElem hlt
    have hlt2 : i < ys.length := by omega
    have hy : ys[i]? = some ys[i] := List.getElem?_eq_getElem hlt2
    refine .inr ⟨⟨xs, ys, _, _, qx, qy, hx, hy⟩, Pv (i + 1), fun σ' H' p' => ⟨xs.length - (i + 1), by omega, rfl, hlt, p'⟩, fun v H' y => ?_⟩
    obtain ⟨T, x', y', rfl, hT, rfl, f1, f2⟩ := y
    exact hs i x' y' T σ H (f1 xs qx) (f2 ys qy) p hT
  · have e : i = xs.length := by omega
    subst e
    exact .inl ⟨⟨xs, ys, qx, qy, Or.inl (Nat.le_refl _)⟩, hd σ H p⟩
/-- for x, y in zip(list, list) -/
theorem ws_for_zipL (h : Wa K E e t ρ B fun as B1 => ∃ xs ys : List D, as = [.lst xs, .lst ys] ∧ xs.length = ys.length ∧ ∃ I : Nat → KE', I 0 ρ B1 ∧ (∀ i x y ρ' B', xs[i]? = some x → ys[i]? = some y → I i ρ' B' → Wg K g (.tup [x, y]) ρ' B' fun ρ2 B2 => Ws K E e tbody ρ2 B2 { nx := I (i + 1), rt := κ.rt, bk := κ.nx, ct := I (i + 1) }) ∧ ∀ ρ' B', I xs.length ρ' B' → κ.nx ρ' B') :
    Ws K E e (tFor (iZipA K t) g tbody) ρ B κ := fun σ H G Dn s en x q =>
  h σ H G _ s en x fun as vs B1 G1 H1 ⟨xs, ys, ed, hl, I, i0, hs, hd⟩ e1 r1 => by
    subst ed
    obtain ⟨_, _, rfl, ⟨a, us, rfl, ha, hr⟩, _, _, rfl, ⟨b, ws, rfl, hb, hw⟩, rfl⟩ := r1
    have hul : us.length = ws.length := by rw [← hr.length, ← hw.length]; exact hl
    refine ⟨a, b, us, ws, rfl, .inl ⟨SqL.of (e1.sub _ _ ha), SqL.of (e1.sub _ _ hb), ?_⟩⟩
    refine for_zip (Sq := SqL K) (xs := us) (ys := ws) hul (fun i σ' H' => ∃ ρ' B' G', I i ρ' B' ∧ Ext G1 H1 B1 G' H' B' ∧ EnvR K G' B' ρ' σ') ⟨ρ, B1, G1, i0, Ext.refl e1.sub, en.mono e1.le⟩ (fun i σ' H' _ ⟨_, _, G', _, e2, _⟩ => ⟨SqL.of (e2.sub _ _ (e2.le.keep _ _ ha nopen_lst)), SqL.of (e2.sub _ _ (e2.le.keep _ _ hb nopen_lst))⟩) ?_ ?_
    · rintro i v w T σ' H' hi hi2 ⟨ρ', B', G', hI, e2, en2⟩ hT
      obtain ⟨dx, hdx, rx⟩ := hr.get' hi
      obtain ⟨dy, hdy, ry⟩ := hw.get' hi2
      have gT : G' T = none := by
        cases z : G' T with
        | none => rfl
        | some u => rw [e2.sub _ _ z] at hT; cases hT
      have e3 := Ext.new (B := B') (o := .tup [v, w]) e2.sub hT
      refine hs i dx dy ρ' B' hdx hdy hI (.ref T) σ' _ _ _ e3.sub (en2.mono e3.le) ⟨T, [v, w], rfl, SqT.of upd_same, v, [w], rfl, (rx.mono e2.le).mono e3.le, w, [], rfl, (ry.mono e2.le).mono e3.le, rfl⟩ fun ρ2 σ2 B2 G2 H2 h2 e4 en4 => ?_
      have eA := e1.trans ((e2.trans e3).trans e4)
      exact h2 σ2 H2 G2 _ e4.sub en4 (x.ext eA) ⟨fun ρ3 σ3 B3 G3 H3 h3 e5 en5 => ⟨ρ3, B3, G3, h3, ((e2.trans e3).trans e4).trans e5, en5⟩, q.rt.ext eA, q.nx.ext eA, fun ρ3 σ3 B3 G3 H3 h3 e5 en5 => ⟨ρ3, B3, G3, h3, ((e2.trans e3).trans e4).trans e5, en5⟩⟩
    · rintro σ' H' ⟨ρ', B', G', hI, e2, en2⟩
      rw [← hr.length] at hI
      exact q.nx _ _ _ _ _ (hd _ _ hI) (e1.trans e2) en2
/-- min(list of tuples of ints) -/
theorem we_minT (h : Wa K E e t ρ B fun as B1 => ∃ nss : List (List Int), as = [.lst (nss.map fun ns => .tup (ns.map D.int))] ∧ 0 < nss.length ∧ ∀ ns ∈ nss, (∀ ms ∈ nss, HT.lexLt ms ns = false) → k (.tup (ns.map D.int)) B1) : We K E e (tCB (RM.rMinT K) t) ρ B k :=
  we_cb fun σ H G Q s en x q => h σ H G Q s en x fun ds vs B1 G1 H1 ⟨nss, ed, h0, hk⟩ e1 r1 => q ds vs B1 G1 H1 (fun ws H2 G2 Q2 s2 r2 q2 => by
    subst ed
    obtain ⟨_, _, rfl, ⟨a, us, rfl, ha, hr⟩, rfl⟩ := r2
    have hlen : us.length = nss.length := by rw [← hr.length, List.length_map]
    have get : ∀ (j : Nat) u ns, us[j]? = some u → nss[j]? = some ns → ∃ t, u = .ref t ∧ SqT K G2 t (ns.map V.int) := fun j u ns h1 h2 => by
      obtain ⟨d, hd, rd⟩ := hr.get' h1
      rw [List.getElem?_map, h2] at hd
      cases hd
      obtain ⟨t, zs, e, ht, hz⟩ := rd
      rw [RepL.ints_inv hz] at ht
      exact ⟨t, e, ht⟩
    have le : Le G2 B1 H2 B1 := Le.of_sub s2 (Int.le_refl _)
    refine ⟨a, us, nss, rfl, SqL.of (s2 _ _ ha), hlen, fun j u ns h1 h2 => ?_, h0, fun j u ns h1 h2 hm => ?_⟩
    · obtain ⟨t, e, ht⟩ := get j u ns h1 h2
      exact ⟨t, e, le.seqT ht⟩
    · obtain ⟨t, e, ht⟩ := get j u ns h1 h2
      subst e
      exact q2 _ _ _ _ _ (hk ns (List.mem_of_getElem? h2) hm) (Ext.refl s2) ⟨t, _, rfl, ht, RepL.ints ns⟩) e1 r1
theorem wg_unl {n : Nat} {gs : TGs} {k : KE'} (hn : ds.length = n) (h : Wgs K gs ds ρ B k) : Wg K (gUnl K n gs) (.lst ds) ρ B k := fun v σ H G Q s en r q => by
  obtain ⟨a, vs, rfl, ha, hr⟩ := r
  exact ⟨a, vs, rfl, SqL.of (s _ _ ha), by rw [← hr.length]; exact hn, h vs σ H G Q s en hr q⟩
theorem we_isi_list (h : Wa K E e t ρ B fun ds B1 => ∃ xs : List D, ds = [.lst xs, .val (.ty "list")] ∧ k (.bl true) B1) : We K E e (tCB (rIsi K) t) ρ B k :=
  we_cb fun σ H G Q s en x q => h σ H G Q s en x fun ds vs B1 G1 H1 ⟨xs, ed, hk⟩ e1 r1 => q ds vs B1 G1 H1 (fun ws H2 G2 Q2 s2 r2 q2 => by
    subst ed
    obtain ⟨_, _, rfl, ⟨a, us, rfl, ha, hr⟩, c, _, rfl, rc, rfl⟩ := r2
    rw [show c = _ from rc]
    exact ⟨_, _, _, _, true, rfl, .ty _, .base (.lst (s2 _ _ ha)), kit_ty (by decide +kernel), q2 _ _ _ _ _ hk (Ext.refl s2) rfl⟩) e1 r1
theorem un65 {k : Nat} {A : Around} (r : Room k A) : A.units + 65 < cLine := by have := r.un; omega
theorem wb_join (J : List (Option D) → List D → Int → Prop) (h1 : ∀ us, (∀ ρ' ds' B', J ρ' ds' B' → Wsb K E e us ρ' B' i ds' κ) → Wsb K E e (tSeq s us) ρ B i ds κ) (h2 : ∀ ρ' ds' B', J ρ' ds' B' → Wsb K E e us ρ' B' i ds' κ) : Wsb K E e (tSeq s us) ρ B i ds κ := h1 us h2
theorem wb_assoc {a b c : TS} (h : Wsb K E e (tSeq a (tSeq b c)) ρ B i ds κ) : Wsb K E e (tSeq (tSeq a b) c) ρ B i ds κ := h
theorem wb_asg2 {l : Nat} (hij : j ≠ i) (hil : l ≠ i) (h : We K E e ta ρ B fun d B1 => ∃ a b, d = .tup [a, b] ∧ Wsb K E e us ((ρ.set j (some a)).set l (some b)) B1 i ds κ) : Wsb K E e (tSeq (tAsg ta (gTup K 2 (gCons (gName j) (gCons (gName l) gNil)))) us) ρ B i ds κ := fun σ H G Dn G0 H0 B0 p vs s en hp np gp hL hr ex x q => by
  refine h σ H G _ s en (x.ext ex) fun d v B1 G1 H1 hb e1 rv => ?_
  obtain ⟨a, b, rfl, hb⟩ := hb
  obtain ⟨T, ws, rfl, hT, va, _, rfl, ra, vb, _, rfl, rb, rfl⟩ := rv
  obtain ⟨z1, z2⟩ := e1.fr p _ hL gp (fun _ z => nomatch z)
  refine ⟨T, [va, vb], rfl, (Le.of_sub (B := B1) (B' := B1) e1.sub (Int.le_refl _)).seqT hT, rfl, va, [vb], rfl, vb, [], rfl, rfl, ?_⟩
  exact hb _ H1 G1 Dn G0 H0 B0 p vs e1.sub (EnvR.set rb l (EnvR.set ra j (en.mono e1.le))) (by rw [List.getElem?_set_ne hil, List.getElem?_set_ne hij]; exact hp) np z2 z1 (hr.mono e1.le) (ex.trans e1) x q
end
end AW

set_option linter.all false
set_option maxRecDepth 100000
set_option maxHeartbeats 4000000
namespace AW
open PySem PySem.Spec PyProof.Rows L2 RZ
variable [Tbs]
/-! a comprehension over pairs; list(list) -/
section
variable {K : PySem.W.Frag} {E E' E1 : XK} {e : EW} {ρ : List (Option D)} {B : Int} {k : KD} {κ : KS} {ta tb tl te : TE} {t : TA} {i j : Nat}
theorem map_stepP {α : Type} {f : α → D} {xs : List α} {n : Nat} {x : α} (hx : xs[n]? = some x) : (xs.map f).take n ++ [f x] = (xs.map f).take (n + 1) := by
  rw [List.take_add_one, List.getElem?_map, hx]
  rfl
/-- [f(x, y) for x, y in a list of pairs] -/
theorem we_lc_pairL (hij : i ≠ j) (h : We K E e tl ρ B fun d B1 => ∃ xs : List (D × D), d = .lst (xs.map fun z => .tup [z.1, z.2]) ∧ xs.length < sizeLine ∧ ∃ f : D → D → D, (∀ (n : Nat) (x y : D), xs[n]? = some (x, y) → ∀ k' : KD, k' (f x y) B1 → We K E1 noE te ((((ρ.set j none).set i none).set i (some x)).set j (some y)) B1 k') ∧ k (.lst (xs.map fun z => f z.1 z.2)) B1) :
    We K E e (tLc (iList K tl) (gTup K 2 (gCons (gName i) (gCons (gName j) gNil))) tYes te [i, j]) ρ B k := fun σ H G Q s en x q =>
  h σ H G _ s en x fun d v B1 G1 H1 ⟨xs, ed, hz, f, hs, hk⟩ e1 r1 => by
    subst ed
    obtain ⟨a, us, rfl, ha, hr⟩ := r1
    have hlen : us.length = xs.length := by rw [← hr.length, List.length_map]
    have en1 := en.mono e1.le
    refine ⟨a, rfl, ⟨us, SqL.of (e1.sub _ _ ha)⟩, fun L nL => ?_⟩
    refine lc_list (xs := us) (fun n H' => LcOk K (fun out B => out = (xs.map fun z => f z.1 z.2).take n ∧ B = B1) L G1 H1 B1 H') (lc_start e1.sub nL ⟨by simp, rfl⟩) (fun i H' _ z => SqL.of (z.kept ha nopen_lst)) ?_ ?_
    · intro n y H' hi hP
      obtain ⟨dx, hdx, rx⟩ := hr.get' hi
      rw [List.getElem?_map] at hdx
      have hn : n < xs.length := by rw [← hlen]; exact (List.getElem?_eq_some_iff.mp hi).1
      have hx : xs[n]? = some xs[n] := List.getElem?_eq_getElem hn
      rw [hx] at hdx
      generalize xs[n] = z at hx hdx
      obtain ⟨zx, zy⟩ := z
      cases hdx
      obtain ⟨out, B', G', acc, ⟨eo, eB⟩, e2, gL, hL, hr2⟩ := hP
      subst eB
      obtain ⟨T, ws, rfl, hT, v, _, rfl, rv, w, _, rfl, rw_, rfl⟩ := rx
      have hT2 : SqT K H' T [v, w] := (Le.of_sub (B := B) (B' := B) e2.sub (Int.le_refl _)).seqT (e2.le.seqT hT)
      refine ⟨T, [v, w], rfl, hT2, rfl, v, [w], rfl, w, [], rfl, rfl, ?_, ?_⟩
      · show ((((((σ.set j none).set i none).set i (some v)).set j (some w)).set j none).set i none) = (σ.set j none).set i none
        exact set_two σ hij (some v) (some v) (some w) none
      · have en2 : EnvR K G' B' ((((ρ.set j none).set i none).set i (some zx)).set j (some zy)) ((((σ.set j none).set i none).set i (some v)).set j (some w)) := EnvR.set (rw_.mono e2.le) j (EnvR.set (rv.mono e2.le) i (EnvR.wipe1 i (EnvR.wipe1 j (en1.mono e2.le))))
        refine hs n zx zy hx (fun d B2 => d = f zx zy ∧ B2 = B') ⟨rfl, rfl⟩ _ _ G' _ e2.sub en2 XOk.no fun d u B4 G4 H4 ⟨ed, eB⟩ e4 r4 => ?_
        subst ed eB
        obtain ⟨z1, z2⟩ := e4.fr L _ hL gL (fun _ z => nomatch z)
        have hlen2 : acc.length < sizeLine := by
          rw [← hr2.length, eo, List.length_take, List.length_map]
          omega
        refine ⟨acc, z1, hlen2, out ++ [f zx zy], B4, G4, acc ++ [u], ⟨by rw [eo]; exact map_stepP (f := fun z : D × D => f z.1 z.2) hx, rfl⟩, ?_, z2, upd_same, (hr2.mono e4.le).append ⟨u, [], rfl, r4, rfl⟩⟩
        have eA := e2.trans e4
        refine ⟨eA.le, fun a o z => ?_, fun a o z n t => ?_⟩
        · have : a ≠ L := fun q => by rw [q, z2] at z; cases z
          rw [upd_ne this]; exact eA.sub _ _ z
        · have : a ≠ L := ne_of_none z nL
          rw [upd_ne this]
          exact eA.fr _ _ z n t
    · intro H' hz2
      refine lc_end e1 nL hz2 (fun out B' hI => ?_) q
      obtain ⟨eo, eB⟩ := hI
      subst eB
      have : (xs.map fun z => f z.1 z.2).take us.length = xs.map fun z => f z.1 z.2 := List.take_of_length_le (by rw [List.length_map]; omega)
      rw [eo, this]
      exact hk
/-- list(list) -/
theorem we_listL (h : Wa K E e t ρ B fun ds B1 => ∃ xs : List D, ds = [.lst xs] ∧ k (.lst xs) B1) :
    We K E e (tCB (fun xs H Q => ∃ p ys, xs = [.ref p] ∧ (SqL K H p ys ∨ SqT K H p ys) ∧ ∀ l, H l = none → Q (.ref l) (upd H l (.lst ys))) t) ρ B k :=
  we_cb fun σ H G Q s en x q => h σ H G Q s en x fun ds vs B1 G1 H1 ⟨xs, ed, hk⟩ e1 r1 => q ds vs B1 G1 H1 (fun ws H2 G2 Q2 s2 r2 q2 => by
    subst ed
    obtain ⟨v, _, rfl, ⟨a, us, rfl, ha, hr⟩, rfl⟩ := r2
    exact ⟨a, us, rfl, .inl (SqL.of (s2 _ _ ha)), fun l nl => q2 _ _ _ _ _ hk (Ext.new (B := B1) s2 nl) ⟨l, us, rfl, upd_same, hr.mono (Ext.new (B := B1) s2 nl).le⟩⟩) e1 r1
end
end AW

set_option linter.all false
set_option maxRecDepth 100000
set_option maxHeartbeats 4000000
namespace AW
open PySem PySem.Spec PyProof.Rows L2 RZ
variable [Tbs]
/-! < over data; either a list or a tuple; comprehensions that leave out; over triples -/
section
variable {K : PySem.W.Frag} {E E' E1 : XK} {e : EW} {ρ : List (Option D)} {B : Int} {k : KD} {κ : KS} {ta tb tl te : TE} {tt : TT} {t : TA} {ts : TS} {g : TG} {i j l sl : Nat} {t1 t2 : TI}
theorem ro_ltDD {a b : D} (oa : pyOk a = true) (ob : pyOk b = true) (al : PySem.W.alike (py a) (py b) = true) (nn : py a ≠ .none) (dp : min (py a).depth (py b).depth ≤ 60) (h : k (.bl (PySem.W.dataLt (py a) (py b))) B) : Ro K E e (rLtDD K) a b B k := fun x y H G Q s r1 r2 _ q =>
  ⟨_, _, Rep.dp s r1 oa, Rep.dp s r2 ob, al, nn, dp, q _ _ _ _ _ h (Ext.refl s) rfl⟩
theorem ws_orL (h : Ws K E e (tFor t1 g ts) ρ B κ) : Ws K E e (tFor (iOr t1 t2) g ts) ρ B κ := fun σ H G Dn s en x q => .inl (h σ H G Dn s en x q)
theorem ws_orR (h : Ws K E e (tFor t2 g ts) ρ B κ) : Ws K E e (tFor (iOr t1 t2) g ts) ρ B κ := fun σ H G Dn s en x q => .inr (h σ H G Dn s en x q)
theorem we_lcOrL {vs : List Nat} (h : We K E e (tLc t1 g tt te vs) ρ B k) : We K E e (tLc (iOr t1 t2) g tt te vs) ρ B k := fun σ H G Q s en x q => .inl (h σ H G Q s en x q)
theorem we_lcOrR {vs : List Nat} (h : We K E e (tLc t2 g tt te vs) ρ B k) : We K E e (tLc (iOr t1 t2) g tt te vs) ρ B k := fun σ H G Q s en x q => .inr (h σ H G Q s en x q)
theorem atI_get {α : Type} {xs : List α} {i : Nat} {x : α} (h : xs[i]? = some x) : atI xs (i : Int) = some x := by
  have hl := (List.getElem?_eq_some_iff.mp h).1
  unfold atI ixN
  rw [if_pos (by omega), if_pos (by omega)]
  simpa using h
theorem atI0 {α : Type} {x : α} {xs : List α} : atI (x :: xs) 0 = some x := atI_get (i := 0) rfl
/-- a list, or a tuple -/
def seqD (b : Bool) (ds : List D) : D := if b = true then .tup ds else .lst ds
theorem ws_for_seq (b : Bool) (h : We K E e tl ρ B fun d B1 => ∃ ds, d = seqD b ds ∧ ∃ I : Nat → KE', I 0 ρ B1 ∧ (∀ i x ρ' B', ds[i]? = some x → I i ρ' B' → Wg K g x ρ' B' fun ρ2 B2 => Ws K E e ts ρ2 B2 { nx := I (i + 1), rt := κ.rt, bk := κ.nx, ct := I (i + 1) }) ∧ ∀ ρ' B', I ds.length ρ' B' → κ.nx ρ' B') :
    Ws K E e (tFor (iOr (iList K tl) (iTup K tl)) g ts) ρ B κ := by
  cases b with
  | false => exact ws_orL (ws_for_list h)
  | true => exact ws_orR (ws_for_tup h)
theorem we_lenSq (b : Bool) (h : Wa K E e t ρ B fun ds B1 => ∃ xs, ds = [seqD b xs] ∧ k (.int xs.length) B1) : We K E e (tCB (fun xs H Q => ∃ p ys, xs = [.ref p] ∧ (SqL K H p ys ∨ SqT K H p ys) ∧ Q (.int ys.length) H) t) ρ B k := by
  cases b with
  | false => exact we_lenL h
  | true => exact we_lenT h
theorem filt_step {α : Type} {p : α → Bool} {f : α → D} {xs : List α} {n : Nat} {x : α} (hx : xs[n]? = some x) : ((xs.take (n + 1)).filter p).map f = ((xs.take n).filter p).map f ++ (if p x = true then [f x] else []) := by
  rw [List.take_add_one, hx, List.filter_append, List.map_append]
  congr 1
  cases h : p x <;> simp [h]
/-- [x for x in xs if p(x)], over a list or a tuple of data told by f -/
theorem we_lc_filtL {α : Type} {f : α → D} (h : We K E e tl ρ B fun d B1 => ∃ (xs : List α) (p : α → Bool), d = .lst (xs.map f) ∧ xs.length < sizeLine ∧ (∀ x ∈ xs, ∀ kb : Bool → Int → Prop, kb (p x) B1 → Wt K E1 noE tt ((ρ.set sl none).set sl (some (f x))) B1 kb) ∧
    (∀ x ∈ xs, ∀ k' : KD, k' (f x) B1 → We K E1 noE te ((ρ.set sl none).set sl (some (f x))) B1 k') ∧ k (.lst ((xs.filter p).map f)) B1) :
    We K E e (tLc (iList K tl) (gName sl) tt te [sl]) ρ B k := we_lc_list (E1 := E1) (h.imp fun d B1 ⟨xs, p, ed, hl, ht, hs, hk⟩ => ⟨xs.map f, ed, by rw [List.length_map]; exact hl, fun n out B' => out = ((xs.take n).filter p).map f ∧ B' = B1, ⟨rfl, rfl⟩, fun n y out B' hn ⟨eo, eB⟩ => by
      rw [List.getElem?_map] at hn
      obtain ⟨x, hx, ey⟩ := Option.map_eq_some_iff.mp hn
      subst ey eB
      have hm := List.mem_of_getElem? hx
      refine ht x hm _ ⟨fun hb => hs x hm _ ⟨?_, rfl⟩, fun hb => ⟨?_, rfl⟩⟩
      · rw [eo, filt_step hx, hb, if_pos rfl]
      · rw [eo, filt_step hx, hb, if_neg Bool.false_ne_true, List.append_nil], fun out B' _ ⟨eo, eB⟩ => by
      rw [eo, eB, List.length_map, List.take_length]
      exact hk⟩)
theorem we_lc_filtT {α : Type} {f : α → D} (h : We K E e tl ρ B fun d B1 => ∃ (xs : List α) (p : α → Bool), d = .tup (xs.map f) ∧ xs.length < sizeLine ∧ (∀ x ∈ xs, ∀ kb : Bool → Int → Prop, kb (p x) B1 → Wt K E1 noE tt ((ρ.set sl none).set sl (some (f x))) B1 kb) ∧
    (∀ x ∈ xs, ∀ k' : KD, k' (f x) B1 → We K E1 noE te ((ρ.set sl none).set sl (some (f x))) B1 k') ∧ k (.lst ((xs.filter p).map f)) B1) :
    We K E e (tLc (iTup K tl) (gName sl) tt te [sl]) ρ B k := we_lc_tup (E1 := E1) (h.imp fun d B1 ⟨xs, p, ed, hl, ht, hs, hk⟩ => ⟨xs.map f, ed, by rw [List.length_map]; exact hl, fun n out B' => out = ((xs.take n).filter p).map f ∧ B' = B1, ⟨rfl, rfl⟩, fun n y out B' hn ⟨eo, eB⟩ => by
      rw [List.getElem?_map] at hn
      obtain ⟨x, hx, ey⟩ := Option.map_eq_some_iff.mp hn
      subst ey eB
      have hm := List.mem_of_getElem? hx
      refine ht x hm _ ⟨fun hb => hs x hm _ ⟨?_, rfl⟩, fun hb => ⟨?_, rfl⟩⟩
      · rw [eo, filt_step hx, hb, if_pos rfl]
      · rw [eo, filt_step hx, hb, if_neg Bool.false_ne_true, List.append_nil], fun out B' _ ⟨eo, eB⟩ => by
      rw [eo, eB, List.length_map, List.take_length]
      exact hk⟩)
theorem we_lc_filtS {α : Type} {f : α → D} (b : Bool) (h : We K E e tl ρ B fun d B1 => ∃ (xs : List α) (p : α → Bool), d = seqD b (xs.map f) ∧ xs.length < sizeLine ∧ (∀ x ∈ xs, ∀ kb : Bool → Int → Prop, kb (p x) B1 → Wt K E1 noE tt ((ρ.set sl none).set sl (some (f x))) B1 kb) ∧
    (∀ x ∈ xs, ∀ k' : KD, k' (f x) B1 → We K E1 noE te ((ρ.set sl none).set sl (some (f x))) B1 k') ∧ k (.lst ((xs.filter p).map f)) B1) :
    We K E e (tLc (iOr (iList K tl) (iTup K tl)) (gName sl) tt te [sl]) ρ B k := by
  cases b with
  | false => exact we_lcOrL (we_lc_filtL (E1 := E1) h)
  | true => exact we_lcOrR (we_lc_filtT (E1 := E1) h)
theorem map_map_step {α : Type} {f g : α → D} {xs : List α} {n : Nat} {x : α} (hx : xs[n]? = some x) : (xs.map g).take n ++ [g x] = (xs.map g).take (n + 1) := map_stepP hx
/-- [g(x) for x in xs] with xs told by f -/
theorem we_lc_toldL {α : Type} {f g : α → D} (h : We K E e tl ρ B fun d B1 => ∃ xs : List α, d = .lst (xs.map f) ∧ xs.length < sizeLine ∧ (∀ x ∈ xs, ∀ k' : KD, k' (g x) B1 → We K E1 noE te ((ρ.set sl none).set sl (some (f x))) B1 k') ∧ k (.lst (xs.map g)) B1) :
    We K E e (tLc (iList K tl) (gName sl) tYes te [sl]) ρ B k := we_lc_list (E1 := E1) (h.imp fun d B1 ⟨xs, ed, hl, hs, hk⟩ => ⟨xs.map f, ed, by rw [List.length_map]; exact hl, fun n out B' => out = (xs.map g).take n ∧ B' = B1, ⟨rfl, rfl⟩, fun n y out B' hn ⟨eo, eB⟩ => wt_yes ⟨fun _ => by
      rw [List.getElem?_map] at hn
      obtain ⟨x, hx, ey⟩ := Option.map_eq_some_iff.mp hn
      subst ey eB
      refine hs x (List.mem_of_getElem? hx) _ ⟨?_, rfl⟩
      rw [eo]
      exact map_stepP (f := g) hx, fun h => nomatch h⟩, fun out B' _ ⟨eo, eB⟩ => by
      rw [eo, eB, List.length_map, List.take_of_length_le (by rw [List.length_map]; exact Nat.le_refl _)]
      exact hk⟩)
theorem we_lc_toldT {α : Type} {f g : α → D} (h : We K E e tl ρ B fun d B1 => ∃ xs : List α, d = .tup (xs.map f) ∧ xs.length < sizeLine ∧ (∀ x ∈ xs, ∀ k' : KD, k' (g x) B1 → We K E1 noE te ((ρ.set sl none).set sl (some (f x))) B1 k') ∧ k (.lst (xs.map g)) B1) :
    We K E e (tLc (iTup K tl) (gName sl) tYes te [sl]) ρ B k := we_lc_tup (E1 := E1) (h.imp fun d B1 ⟨xs, ed, hl, hs, hk⟩ => ⟨xs.map f, ed, by rw [List.length_map]; exact hl, fun n out B' => out = (xs.map g).take n ∧ B' = B1, ⟨rfl, rfl⟩, fun n y out B' hn ⟨eo, eB⟩ => wt_yes ⟨fun _ => by
      rw [List.getElem?_map] at hn
      obtain ⟨x, hx, ey⟩ := Option.map_eq_some_iff.mp hn
      subst ey eB
      refine hs x (List.mem_of_getElem? hx) _ ⟨?_, rfl⟩
      rw [eo]
      exact map_stepP (f := g) hx, fun h => nomatch h⟩, fun out B' _ ⟨eo, eB⟩ => by
      rw [eo, eB, List.length_map, List.take_of_length_le (by rw [List.length_map]; exact Nat.le_refl _)]
      exact hk⟩)
theorem we_lc_toldS {α : Type} {f g : α → D} (b : Bool) (h : We K E e tl ρ B fun d B1 => ∃ xs : List α, d = seqD b (xs.map f) ∧ xs.length < sizeLine ∧ (∀ x ∈ xs, ∀ k' : KD, k' (g x) B1 → We K E1 noE te ((ρ.set sl none).set sl (some (f x))) B1 k') ∧ k (.lst (xs.map g)) B1) :
    We K E e (tLc (iOr (iList K tl) (iTup K tl)) (gName sl) tYes te [sl]) ρ B k := by
  cases b with
  | false => exact we_lcOrL (we_lc_toldL (E1 := E1) h)
  | true => exact we_lcOrR (we_lc_toldT (E1 := E1) h)
theorem set_three {α : Type} (σ : List α) {i j l : Nat} (hij : i ≠ j) (hil : i ≠ l) (hjl : j ≠ l) (a b c z : α) : (((((((((σ.set l z).set j z).set i z).set i a).set j b).set l c).set l z).set j z).set i z) = ((σ.set l z).set j z).set i z := by
  apply List.ext_getElem?
  intro n
  simp only [List.getElem?_set, List.length_set]
  by_cases h1 : i = n <;> by_cases h2 : j = n <;> by_cases h3 : l = n <;> first | (exfalso; omega) | simp [h1, h2, h3]
/-- [f(x, y, z) for x, y, z in a list of triples] -/
theorem we_lc_tripL {α : Type} {fx fy fz f : α → D} (hij : i ≠ j) (hil : i ≠ l) (hjl : j ≠ l) (h : We K E e tl ρ B fun d B1 => ∃ xs : List α, d = .lst (xs.map fun z => .tup [fx z, fy z, fz z]) ∧ xs.length < sizeLine ∧ (∀ x ∈ xs, ∀ k' : KD, k' (f x) B1 → We K E1 noE te ((((((ρ.set l none).set j none).set i none).set i (some (fx x))).set j (some (fy x))).set l (some (fz x))) B1 k') ∧ k (.lst (xs.map f)) B1) :
    We K E e (tLc (iList K tl) (gTup K 3 (gCons (gName i) (gCons (gName j) (gCons (gName l) gNil)))) tYes te [i, j, l]) ρ B k := fun σ H G Q s en x q =>
  h σ H G _ s en x fun d v B1 G1 H1 ⟨xs, ed, hz, hs, hk⟩ e1 r1 => by
    subst ed
    obtain ⟨a, us, rfl, ha, hr⟩ := r1
    have hlen : us.length = xs.length := by rw [← hr.length, List.length_map]
    have en1 := en.mono e1.le
    refine ⟨a, rfl, ⟨us, SqL.of (e1.sub _ _ ha)⟩, fun L nL => ?_⟩
    refine lc_list (xs := us) (fun n H' => LcOk K (fun out B => out = (xs.map f).take n ∧ B = B1) L G1 H1 B1 H') (lc_start e1.sub nL ⟨by simp, rfl⟩) (fun i H' _ z => SqL.of (z.kept ha nopen_lst)) ?_ ?_
    · intro n y H' hi hP
      obtain ⟨dx, hdx, rx⟩ := hr.get' hi
      rw [List.getElem?_map] at hdx
      obtain ⟨z, hx, ez⟩ := Option.map_eq_some_iff.mp hdx
      subst ez
      obtain ⟨out, B', G', acc, ⟨eo, eB⟩, e2, gL, hL, hr2⟩ := hP
      subst eB
      obtain ⟨T, ws, rfl, hT, v1, _, rfl, rv1, v2, _, rfl, rv2, v3, _, rfl, rv3, rfl⟩ := rx
      have hT2 : SqT K H' T [v1, v2, v3] := (Le.of_sub (B := B) (B' := B) e2.sub (Int.le_refl _)).seqT (e2.le.seqT hT)
      refine ⟨T, [v1, v2, v3], rfl, hT2, rfl, v1, [v2, v3], rfl, v2, [v3], rfl, v3, [], rfl, rfl, ?_, ?_⟩
      · exact set_three σ hij hil hjl (some v1) (some v2) (some v3) none
      · have en2 : EnvR K G' B' ((((((ρ.set l none).set j none).set i none).set i (some (fx z))).set j (some (fy z))).set l (some (fz z))) ((((((σ.set l none).set j none).set i none).set i (some v1)).set j (some v2)).set l (some v3)) := EnvR.set (rv3.mono e2.le) l (EnvR.set (rv2.mono e2.le) j (EnvR.set (rv1.mono e2.le) i (EnvR.wipe1 i (EnvR.wipe1 j (EnvR.wipe1 l (en1.mono e2.le))))))
        refine hs z (List.mem_of_getElem? hx) (fun d B2 => d = f z ∧ B2 = B') ⟨rfl, rfl⟩ _ _ G' _ e2.sub en2 XOk.no fun d u B4 G4 H4 ⟨ed, eB⟩ e4 r4 => ?_
        subst ed eB
        obtain ⟨z1, z2⟩ := e4.fr L _ hL gL (fun _ z => nomatch z)
        have hn : n < xs.length := by rw [← hlen]; exact (List.getElem?_eq_some_iff.mp hi).1
        have hlen2 : acc.length < sizeLine := by
          rw [← hr2.length, eo, List.length_take, List.length_map]
          omega
        refine ⟨acc, z1, hlen2, out ++ [f z], B4, G4, acc ++ [u], ⟨by rw [eo]; exact map_stepP (f := f) hx, rfl⟩, ?_, z2, upd_same, (hr2.mono e4.le).append ⟨u, [], rfl, r4, rfl⟩⟩
        have eA := e2.trans e4
        refine ⟨eA.le, fun a o z => ?_, fun a o z n t => ?_⟩
        · have : a ≠ L := fun q => by rw [q, z2] at z; cases z
          rw [upd_ne this]; exact eA.sub _ _ z
        · have : a ≠ L := ne_of_none z nL
          rw [upd_ne this]
          exact eA.fr _ _ z n t
    · intro H' hz2
      refine lc_end e1 nL hz2 (fun out B' hI => ?_) q
      obtain ⟨eo, eB⟩ := hI
      subst eB
      have : (xs.map f).take us.length = xs.map f := List.take_of_length_le (by rw [List.length_map]; omega)
      rw [eo, this]
      exact hk
/-- [f(x, y) for x, y in a list of pairs, told] -/
theorem we_lc_dupL {α : Type} {fx fy f : α → D} (hij : i ≠ j) (h : We K E e tl ρ B fun d B1 => ∃ xs : List α, d = .lst (xs.map fun z => .tup [fx z, fy z]) ∧ xs.length < sizeLine ∧ (∀ x ∈ xs, ∀ k' : KD, k' (f x) B1 → We K E1 noE te ((((ρ.set j none).set i none).set i (some (fx x))).set j (some (fy x))) B1 k') ∧ k (.lst (xs.map f)) B1) :
    We K E e (tLc (iList K tl) (gTup K 2 (gCons (gName i) (gCons (gName j) gNil))) tYes te [i, j]) ρ B k := fun σ H G Q s en x q =>
  h σ H G _ s en x fun d v B1 G1 H1 ⟨xs, ed, hz, hs, hk⟩ e1 r1 => by
    subst ed
    obtain ⟨a, us, rfl, ha, hr⟩ := r1
    have hlen : us.length = xs.length := by rw [← hr.length, List.length_map]
    have en1 := en.mono e1.le
    refine ⟨a, rfl, ⟨us, SqL.of (e1.sub _ _ ha)⟩, fun L nL => ?_⟩
    refine lc_list (xs := us) (fun n H' => LcOk K (fun out B => out = (xs.map f).take n ∧ B = B1) L G1 H1 B1 H') (lc_start e1.sub nL ⟨by simp, rfl⟩) (fun i H' _ z => SqL.of (z.kept ha nopen_lst)) ?_ ?_
    · intro n y H' hi hP
      obtain ⟨dx, hdx, rx⟩ := hr.get' hi
      rw [List.getElem?_map] at hdx
      obtain ⟨z, hx, ez⟩ := Option.map_eq_some_iff.mp hdx
      subst ez
      obtain ⟨out, B', G', acc, ⟨eo, eB⟩, e2, gL, hL, hr2⟩ := hP
      subst eB
      obtain ⟨T, ws, rfl, hT, v1, _, rfl, rv1, v2, _, rfl, rv2, rfl⟩ := rx
      have hT2 : SqT K H' T [v1, v2] := (Le.of_sub (B := B) (B' := B) e2.sub (Int.le_refl _)).seqT (e2.le.seqT hT)
      refine ⟨T, [v1, v2], rfl, hT2, rfl, v1, [v2], rfl, v2, [], rfl, rfl, ?_, ?_⟩
      · show ((((((σ.set j none).set i none).set i (some v1)).set j (some v2)).set j none).set i none) = (σ.set j none).set i none
        exact set_two σ hij (some v1) (some v1) (some v2) none
      · have en2 : EnvR K G' B' ((((ρ.set j none).set i none).set i (some (fx z))).set j (some (fy z))) ((((σ.set j none).set i none).set i (some v1)).set j (some v2)) := EnvR.set (rv2.mono e2.le) j (EnvR.set (rv1.mono e2.le) i (EnvR.wipe1 i (EnvR.wipe1 j (en1.mono e2.le))))
        refine hs z (List.mem_of_getElem? hx) (fun d B2 => d = f z ∧ B2 = B') ⟨rfl, rfl⟩ _ _ G' _ e2.sub en2 XOk.no fun d u B4 G4 H4 ⟨ed, eB⟩ e4 r4 => ?_
        subst ed eB
        obtain ⟨z1, z2⟩ := e4.fr L _ hL gL (fun _ z => nomatch z)
        have hn : n < xs.length := by rw [← hlen]; exact (List.getElem?_eq_some_iff.mp hi).1
        have hlen2 : acc.length < sizeLine := by
          rw [← hr2.length, eo, List.length_take, List.length_map]
          omega
        refine ⟨acc, z1, hlen2, out ++ [f z], B4, G4, acc ++ [u], ⟨by rw [eo]; exact map_stepP (f := f) hx, rfl⟩, ?_, z2, upd_same, (hr2.mono e4.le).append ⟨u, [], rfl, r4, rfl⟩⟩
        have eA := e2.trans e4
        refine ⟨eA.le, fun a o z => ?_, fun a o z n t => ?_⟩
        · have : a ≠ L := fun q => by rw [q, z2] at z; cases z
          rw [upd_ne this]; exact eA.sub _ _ z
        · have : a ≠ L := ne_of_none z nL
          rw [upd_ne this]
          exact eA.fr _ _ z n t
    · intro H' hz2
      refine lc_end e1 nL hz2 (fun out B' hI => ?_) q
      obtain ⟨eo, eB⟩ := hI
      subst eB
      have : (xs.map f).take us.length = xs.map f := List.take_of_length_le (by rw [List.length_map]; omega)
      rw [eo, this]
      exact hk
end
end AW

set_option linter.all false
set_option maxRecDepth 100000
set_option maxHeartbeats 4000000
namespace AW
open PySem PySem.Spec PyProof.Rows L2 RZ
variable [Tbs]
/-! comprehensions with two generators -/
section
variable {K : PySem.W.Frag} {E E' E1 : XK} {e : EW} {ρ : List (Option D)} {B : Int} {k : KD} {κ : KS} {ta tb tl te : TE} {tt : TT} {t : TA} {ts : TS} {g : TG} {sO sI : Nat}
theorem flat_step {α : Type} {f : α → List D} {xs : List α} {i : Nat} {x : α} (h : xs[i]? = some x) : (xs.take (i + 1)).flatMap f = (xs.take i).flatMap f ++ f x := by
  rw [List.take_add_one, h, List.flatMap_append]
  simp
theorem flat_le {α : Type} {f : α → List D} {xs : List α} {i : Nat} {x : α} (h : xs[i]? = some x) (j : Nat) : ((xs.take i).flatMap f ++ (f x).take j).length ≤ (xs.flatMap f).length := by
  have e : xs = xs.take i ++ x :: xs.drop (i + 1) := by
    obtain ⟨h1, h2⟩ := List.getElem?_eq_some_iff.mp h
    rw [← h2, ← List.drop_eq_getElem_cons h1, List.take_append_drop]
  have e2 : xs.flatMap f = (xs.take i).flatMap f ++ (f x ++ (xs.drop (i + 1)).flatMap f) := by
    conv => lhs; rw [e]
    rw [List.flatMap_append, List.flatMap_cons]
  rw [e2, List.length_append, List.length_append, List.length_append, List.length_take]
  omega
/-- [g(x, j) for x in xs for j in range(n(x))] -/
theorem we_lc2LR {α : Type} {f : α → D} {gg : α → Nat → D} {n : α → Nat} (hne : sO ≠ sI) (h : We K E e tl ρ B fun d B1 => ∃ xs : List α, d = .lst (xs.map f) ∧ (xs.flatMap fun x => (List.range (n x)).map (gg x)).length < sizeLine ∧
    (∀ x ∈ xs, n x < 2 ^ 60 ∧ ∀ ka : List D → Int → Prop, ka [.int (n x)] B1 → Wa K E1 noE t (((ρ.set sI none).set sO none).set sO (some (f x))) B1 ka) ∧
    (∀ x ∈ xs, ∀ j, j < n x → ∀ k' : KD, k' (gg x j) B1 → We K E1 noE te (((((ρ.set sI none).set sO none).set sO (some (f x))).set sI none).set sI (some (.int (0 + (j : Int))))) B1 k') ∧
    k (.lst (xs.flatMap fun x => (List.range (n x)).map (gg x))) B1) :
    We K E e (tLc2 (iList K tl) (gName sO) tYes (iRng1 t) (gName sI) tYes te [sO, sI] [sI]) ρ B k := fun σ H G Q s en x q =>
  h σ H G _ s en x fun d v B1 G1 H1 ⟨xs, ed, hz, hn, hs, hk⟩ e1 r1 => by
    subst ed
    obtain ⟨a, us, rfl, ha, hr⟩ := r1
    have hlen : us.length = xs.length := by rw [← hr.length, List.length_map]
    have en1 := en.mono e1.le
    refine ⟨a, rfl, ⟨us, SqL.of (e1.sub _ _ ha)⟩, fun L nL => ?_⟩
    refine ⟨fun i m H' => m = us.length - i ∧ i ≤ us.length ∧ LcOk K (fun out B => out = (xs.take i).flatMap (fun x => (List.range (n x)).map (gg x)) ∧ B = B1) L G1 H1 B1 H', ⟨us.length, rfl, Nat.zero_le _, lc_start e1.sub nL ⟨by simp, rfl⟩⟩, ?_⟩
    rintro i m H' ⟨rfl, hi, hP⟩
    have hSq : SqL K H' a us := SqL.of (hP.kept ha nopen_lst)
    by_cases hlt : i < us.length
    · have hu : us[i]? = some us[i] := List.getElem?_eq_getElem hlt
      obtain ⟨dx, hdx, rx⟩ := hr.get' hu
      rw [List.getElem?_map] at hdx
      obtain ⟨z, hx, ez⟩ := Option.map_eq_some_iff.mp hdx
      subst ez
      have hm := List.mem_of_getElem? hx
      refine .inr ⟨⟨us, us[i], hSq, hu⟩, fun H2 => LcOk K (fun out B => out = (xs.take (i + 1)).flatMap (fun x => (List.range (n x)).map (gg x)) ∧ B = B1) L G1 H1 B1 H2, fun H2 p' => ⟨us.length - (i + 1), by omega, rfl, hlt, p'⟩, fun w H2 y => ?_⟩
      obtain ⟨rfl, y⟩ := y
      have ew : w = us[i] := by
        have := y us hSq
        rw [hu] at this
        exact (Option.some.inj this).symm
      subst ew
      refine ⟨?_, ?_⟩
      · show ((((σ.set sI none).set sO none).set sO (some us[i])).set sI none).set sO none = (σ.set sI none).set sO none
        rw [List.set_set, List.set_comm _ _ hne, List.set_set, List.set_set]
      unfold tYes
      dsimp only
      rw [if_pos rfl]
      obtain ⟨out, B', G', acc, ⟨eo, eB⟩, e2, gL, hL, hr2⟩ := hP
      subst eB
      have en2 : EnvR K G' B' (((ρ.set sI none).set sO none).set sO (some (f z))) (((σ.set sI none).set sO none).set sO (some us[i])) := EnvR.set (rx.mono e2.le) sO (EnvR.wipe1 sO (EnvR.wipe1 sI (en1.mono e2.le)))
      obtain ⟨hn1, hn2⟩ := hn z hm
      refine hn2 (fun as B2 => as = [.int (n z)] ∧ B2 = B') ⟨rfl, rfl⟩ _ _ G' _ e2.sub en2 XOk.no fun as vs B3 G3 H3 ⟨eas, eB⟩ e3 r3 => ?_
      subst eas eB
      obtain ⟨v0, _, rfl, rv, rfl⟩ := r3
      rw [show v0 = _ from rv]
      have p60 : ((n z : Nat) : Int) < 2 ^ 62 := by omega
      refine ⟨_, rfl, by omega, p60, ?_⟩
      obtain ⟨z1, z2⟩ := e3.fr L _ hL gL (fun _ z => nomatch z)
      rw [Int.toNat_natCast]
      have start : LcOk K (fun out B => out = (xs.take i).flatMap (fun x => (List.range (n x)).map (gg x)) ++ ((List.range (n z)).map (gg z)).take 0 ∧ B = B3) L G1 H1 B3 H3 := ⟨out, B3, G3, acc, ⟨by rw [eo]; simp, rfl⟩, e2.trans e3, z2, z1, hr2.mono e3.le⟩
      refine ⟨fun j k' H4 => k' = n z - j ∧ j ≤ n z ∧ LcOk K (fun out B => out = (xs.take i).flatMap (fun x => (List.range (n x)).map (gg x)) ++ ((List.range (n z)).map (gg z)).take j ∧ B = B3) L G1 H1 B3 H4, ⟨n z, rfl, Nat.zero_le _, start⟩, ?_⟩
      rintro j k' H4 ⟨rfl, hj, hP4⟩
      by_cases hjl : j < n z
      · refine .inr ⟨hjl, fun H5 => LcOk K (fun out B => out = (xs.take i).flatMap (fun x => (List.range (n x)).map (gg x)) ++ ((List.range (n z)).map (gg z)).take (j + 1) ∧ B = B3) L G1 H1 B3 H5, fun H5 p' => ⟨n z - (j + 1), by omega, rfl, hjl, p'⟩, fun w5 H5 y5 => ?_⟩
        obtain ⟨rfl, rfl⟩ := y5
        refine ⟨?_, ?_⟩
        · show (((((σ.set sI none).set sO none).set sO (some us[i])).set sI none).set sI (some (V.int (0 + (j : Int))))).set sI none = (((σ.set sI none).set sO none).set sO (some us[i])).set sI none
          rw [List.set_set, List.set_set]
        rw [if_pos rfl]
        obtain ⟨out4, B4, G4, acc4, ⟨eo4, eB4⟩, e4, gL4, hL4, hr4⟩ := hP4
        subst eB4
        have en4 : EnvR K G4 B4 (((((ρ.set sI none).set sO none).set sO (some (f z))).set sI none).set sI (some (.int (0 + (j : Int))))) (((((σ.set sI none).set sO none).set sO (some us[i])).set sI none).set sI (some (V.int (0 + (j : Int))))) := EnvR.set (d := .int (0 + (j : Int))) rfl sI (EnvR.wipe1 sI (EnvR.set (rx.mono e4.le) sO (EnvR.wipe1 sO (EnvR.wipe1 sI (en1.mono e4.le)))))
        refine hs z hm j hjl (fun d B2 => d = gg z j ∧ B2 = B4) ⟨rfl, rfl⟩ _ _ G4 _ e4.sub en4 XOk.no fun d u B6 G6 H6 ⟨ed, eB⟩ e6 r6 => ?_
        subst ed eB
        obtain ⟨y1, y2⟩ := e6.fr L _ hL4 gL4 (fun _ z => nomatch z)
        have hlen2 : acc4.length < sizeLine := by
          rw [← hr4.length, eo4]
          have := flat_le (f := fun x => (List.range (n x)).map (gg x)) hx j
          omega
        have est : ((List.range (n z)).map (gg z)).take j ++ [gg z j] = ((List.range (n z)).map (gg z)).take (j + 1) := map_stepP (f := gg z) (by rw [List.getElem?_range hjl])
        refine ⟨acc4, y1, hlen2, out4 ++ [gg z j], B6, G6, acc4 ++ [u], ⟨by rw [eo4, List.append_assoc, est], rfl⟩, ?_, y2, upd_same, (hr4.mono e6.le).append ⟨u, [], rfl, r6, rfl⟩⟩
        have eA := e4.trans e6
        refine ⟨eA.le, fun a o z => ?_, fun a o z n t => ?_⟩
        · have : a ≠ L := fun q => by rw [q, y2] at z; cases z
          rw [upd_ne this]; exact eA.sub _ _ z
        · have : a ≠ L := ne_of_none z nL
          rw [upd_ne this]
          exact eA.fr _ _ z n t
      · have ej : j = n z := by omega
        subst ej
        refine .inl ⟨Nat.le_refl _, ?_⟩
        obtain ⟨out4, B4, G4, acc4, ⟨eo4, eB4⟩, e4, gL4, hL4, hr4⟩ := hP4
        refine ⟨out4, B4, G4, acc4, ⟨?_, eB4⟩, e4, gL4, hL4, hr4⟩
        have full : ((List.range (n z)).map (gg z)).take (n z) = (List.range (n z)).map (gg z) := List.take_of_length_le (by rw [List.length_map, List.length_range]; exact Nat.le_refl _)
        rw [eo4, flat_step hx, full]
    · have ei : i = us.length := by omega
      subst ei
      refine .inl ⟨⟨us, hSq, Nat.le_refl _⟩, ?_⟩
      refine lc_end e1 nL hP (fun out B' hI => ?_) q
      obtain ⟨eo, eB⟩ := hI
      subst eB
      rw [eo, List.take_of_length_le (by omega)]
      exact hk
/-! ### parts of a list or tuple -/
/-- a slice's bound -/
def Wo (K : PySem.W.Frag) (E : XK) (e : EW) (t : TO) (ρ : List (Option D)) (B : Int) (k : Option Int → Int → Prop) : Prop := ∀ σ H G (Q : Option Int → Hp → Prop), Sub G H → EnvR K G B ρ σ → XOk K E e G H B → (∀ o B' G' H', k o B' → Ext G H B G' H' B' → Q o H') → t σ H Q
theorem wo_no {k : Option Int → Int → Prop} (h : k none B) : Wo K E e tNoPart ρ B k := fun σ H G Q s en x q => q _ _ _ _ h (Ext.refl s)
theorem wo_part {k : Option Int → Int → Prop} (h : We K E e ta ρ B fun d B1 => ∃ i, d = .int i ∧ k (some i) B1) : Wo K E e (tPart ta) ρ B k := fun σ H G Q s en x q =>
  h σ H G _ s en x fun d v B1 G1 H1 ⟨i, ed, hk⟩ e1 r1 => by
    subst ed
    exact ⟨i, r1, q _ _ _ _ hk e1⟩
def cutD (ds : List D) (lo hi : Option Int) : List D := (ds.drop (HT.sIx ds.length 0 lo)).take (HT.sIx ds.length ds.length hi - HT.sIx ds.length 0 lo)
theorem RepL.cut {G : Hp} {ds : List D} {vs : List V} (h : RepL K G B ds vs) (lo hi : Option Int) : RepL K G B (cutD ds lo hi) (cutV vs lo hi) := by
  unfold cutD cutV
  rw [← h.length]
  exact (h.drop _).take _
variable {tlo thi : TO}
theorem we_slL (h : We K E e ta ρ B fun d B1 => ∃ ds, d = .lst ds ∧ Wo K E e tlo ρ B1 fun lo B2 => Wo K E e thi ρ B2 fun hi B3 => k (.lst (cutD ds lo hi)) B3) : We K E e (tSl (rSlL K) ta tlo thi) ρ B k := fun σ H G Q s en x q =>
  h σ H G _ s en x fun d v B1 G1 H1 ⟨ds, ed, h1⟩ e1 r1 => by
    subst ed
    refine h1 σ H1 G1 _ e1.sub (en.mono e1.le) (x.ext e1) fun lo B2 G2 H2 h2 e2 => ?_
    refine h2 σ H2 G2 _ e2.sub (en.mono (e1.trans e2).le) (x.ext (e1.trans e2)) fun hi B3 G3 H3 hk e3 => ?_
    obtain ⟨a, vs, rfl, ha, hr⟩ := r1.mono (e2.trans e3).le
    exact ⟨a, vs, rfl, SqL.of (e3.sub _ _ ha), fun p np => q _ _ _ _ _ hk ((e1.trans (e2.trans e3)).trans (Ext.new (B := B3) e3.sub np)) ⟨p, _, rfl, upd_same, (hr.cut lo hi).mono (Ext.new (B := B3) e3.sub np).le⟩⟩
theorem we_slT (h : We K E e ta ρ B fun d B1 => ∃ ds, d = .tup ds ∧ Wo K E e tlo ρ B1 fun lo B2 => Wo K E e thi ρ B2 fun hi B3 => ¬ (HT.sIx ds.length 0 lo = 0 ∧ HT.sIx ds.length ds.length hi = ds.length) ∧ k (.tup (cutD ds lo hi)) B3) : We K E e (tSl (rSlT K) ta tlo thi) ρ B k := fun σ H G Q s en x q =>
  h σ H G _ s en x fun d v B1 G1 H1 ⟨ds, ed, h1⟩ e1 r1 => by
    subst ed
    refine h1 σ H1 G1 _ e1.sub (en.mono e1.le) (x.ext e1) fun lo B2 G2 H2 h2 e2 => ?_
    refine h2 σ H2 G2 _ e2.sub (en.mono (e1.trans e2).le) (x.ext (e1.trans e2)) fun hi B3 G3 H3 ⟨hw, hk⟩ e3 => ?_
    obtain ⟨a, vs, rfl, ha, hr⟩ := r1.mono (e2.trans e3).le
    rw [hr.length] at hw
    exact ⟨a, vs, rfl, (Le.of_sub (B := B3) (B' := B3) e3.sub (Int.le_refl _)).seqT ha, hw, fun p np => q _ _ _ _ _ hk ((e1.trans (e2.trans e3)).trans (Ext.new (B := B3) e3.sub np)) ⟨p, _, rfl, SqT.of upd_same, (hr.cut lo hi).mono (Ext.new (B := B3) e3.sub np).le⟩⟩
theorem ro_ixSq {ds : List D} {i : Int} {d : D} (b : Bool) (h : atI ds i = some d) (hk : k d B) : Ro K E e (rIx K) (seqD b ds) (.int i) B k := fun x y H G Q s r1 r2 ex q => by
  cases b with
  | false => exact .inl (ro_ixL (E := E) (e := e) h hk x y H G Q s r1 r2 ex q)
  | true => exact .inr (.inl (ro_ixT (E := E) (e := e) h hk x y H G Q s r1 r2 ex q))
theorem ro_ninT {a : D} {ds : List D} (oa : pyOk a = true) (ob : pyOkL ds = true) (sa : SeqAt.shaped (py a) = true) (sb : SeqAt.shaped (.tuple (pyL ds)) = true) (h : k (.bl (!(pyL ds).any fun z => PyData.eqv z (py a))) B) : Ro K E e (rNinT K) a (.tup ds) B k := fun x y H G Q s r1 r2 _ q =>
  ⟨_, _, Rep.dp s r1 oa, Rep.dp (d := .tup ds) s r2 ob, sa, sb, q (.bl _) _ _ _ _ h (Ext.refl s) rfl⟩
/-! ### a list owned for a while, further -/
variable {i j : Nat} {ds : List D} {us tbody : TS} {κo : KO} {tb : TE}
theorem RepL.set {G : Hp} {d : D} {v : V} (rv : Rep K G B d v) : ∀ {ds : List D} {vs : List V} (n : Nat), RepL K G B ds vs → RepL K G B (ds.set n d) (vs.set n v)
  | [], _, _, h => by rw [show _ = _ from h]; exact rfl
  | _ :: _, _, 0, ⟨_, w, rfl, _, h1⟩ => ⟨v, w, rfl, rv, h1⟩
  | _ :: _, _, n + 1, ⟨v0, w, rfl, h0, h1⟩ => ⟨v0, w.set n v, rfl, h0, RepL.set rv n h1⟩
/-- x[j] = e, no look at the list in either -/
theorem wo_item (h : We K E e ta ρ B fun d B1 => We K E e tb ρ B1 fun c B2 => ∃ n : Nat, c = .int n ∧ n < ds.length ∧ κo.nx ρ (ds.set n d) B2) : Wso K E e (tAsg ta (gSub (tVar i) tb rSetL)) ρ B i ds κo := fun σ H G Dn G0 H0 B0 p vs s en hp np gp hL hr ex x q => by
  refine h σ H G _ s en (x.ext ex) fun d v B1 G1 H1 hb e1 rv => ?_
  refine ⟨.ref p, hp, ?_⟩
  refine hb σ H1 G1 _ e1.sub (en.mono e1.le) ((x.ext ex).ext e1) fun c w B2 G2 H2 ⟨n, ec, hn, hk⟩ e2 rw_ => ?_
  subst ec
  rw [show w = _ from rw_]
  have e12 := e1.trans e2
  obtain ⟨z1, z2⟩ := e12.fr p _ hL gp (fun _ z => nomatch z)
  have hvl : ds.length = vs.length := hr.length
  have hix : ixN vs.length (n : Int) = some n := by
    unfold ixN
    rw [if_pos (by omega), if_pos (by omega), Int.toNat_natCast]
  refine ⟨p, vs, (n : Int), n, rfl, rfl, z1, hix, ?_⟩
  have eA := ex.trans e12
  refine q.nx _ _ σ B2 G2 (upd H2 p (.lst (vs.set n v))) _ hk ⟨eA.le, fun a o z => ?_, fun a o z n t => ?_⟩ (en.mono e12.le) hp z2 upd_same (RepL.set (rv.mono e2.le) n (hr.mono e12.le))
  · rw [upd_ne (ne_of_none z z2)]; exact e12.sub _ _ z
  · rw [upd_ne (ne_of_none z np)]; exact eA.fr _ _ z n t
/-- x = [..] * n, owned -/
theorem wb_startRep (hi : i < ρ.length) (h : We K E e ta ρ B fun d B1 => ∃ xs, d = .lst xs ∧ We K E e tb ρ B1 fun c B2 => ∃ n : Int, c = .int n ∧ -(2 ^ 63) ≤ n ∧ n < 2 ^ 63 ∧ xs.length * n.toNat ≤ sizeLine ∧ Wsb K E e us (ρ.set i none) B2 i (List.replicate n.toNat xs).flatten κ) : Ws K E e (tSeq (tAsg (tOp rRep ta tb) (gName i)) us) ρ B κ := fun σ H G Dn s en x q =>
  h σ H G _ s en x fun d v B1 G1 H1 ⟨xs, ed, h1⟩ e1 r1 => by
    subst ed
    refine h1 σ H1 G1 _ e1.sub (en.mono e1.le) (x.ext e1) fun c w B2 G2 H2 ⟨n, ec, n0, n1, hl, hb⟩ e2 rw_ => ?_
    subst ec
    rw [show w = _ from rw_]
    obtain ⟨a, vs, rfl, ha, hr⟩ := r1.mono e2.le
    have e12 := e1.trans e2
    have rep : ∀ m : Nat, RepL K G2 B2 (List.replicate m xs).flatten (List.replicate m vs).flatten := by
      intro m
      induction m with
      | zero => exact rfl
      | succ m ih =>
        rw [List.replicate_succ, List.replicate_succ, List.flatten_cons, List.flatten_cons]
        exact hr.append ih
    refine ⟨a, n, vs, rfl, rfl, e2.sub _ _ ha, n0, n1, by rw [← hr.length]; exact hl, fun p np => ?_⟩
    have g : G2 p = none := by
      cases z : G2 p with
      | none => rfl
      | some u => rw [e2.sub _ _ z] at np; cases np
    have ex : Ext G2 H2 B2 G2 (upd H2 p (.lst (List.replicate n.toNat vs).flatten)) B2 := Ext.hid e2.sub np
    have en1 : EnvR K G2 B2 (ρ.set i none) (σ.set i (some (.ref p))) := EnvR.weakAt i (en.mono e12.le)
    refine hb _ _ G2 Dn G2 H2 B2 p _ ex.sub en1 ?_ np g upd_same (rep _) ex (x.ext e12) (q.ext e12)
    rw [List.getElem?_set_self (by rw [← en.len]; exact hi)]
/-- for x, y in zip(list, list), a list owned -/
theorem wo_for_zipL (h : Wa K E e t ρ B fun as B1 => ∃ xs ys : List D, as = [.lst xs, .lst ys] ∧ xs.length = ys.length ∧ ∃ I : Nat → List (Option D) → List D → Int → Prop, I 0 ρ ds B1 ∧ (∀ j x y ρ' ds' B', xs[j]? = some x → ys[j]? = some y → I j ρ' ds' B' → ∀ p : Addr, Wg K g (.tup [x, y]) (ρ'.set i (some (.val (.ref p)))) B' fun ρ2 B2 => ρ2[i]? = some (some (.val (.ref p))) ∧ Wso K E e tbody (ρ2.set i none) B2 i ds' { nx := I (j + 1), rt := κo.rt, bk := κo.nx, ct := I (j + 1) }) ∧ ∀ ρ' ds' B', I xs.length ρ' ds' B' → κo.nx ρ' ds' B') :
    Wso K E e (tFor (iZipA K t) g tbody) ρ B i ds κo := fun σ H G Dn G0 H0 B0 p vs sb en hp np gp hL hr ex x q => by
  refine h σ H G _ sb en (x.ext ex) fun as ws B1 G1 H1 ⟨xs, ys, ed, hl, I, i0, hs, hd⟩ e1 r1 => ?_
  subst ed
  obtain ⟨_, _, rfl, ⟨a, us, rfl, ha, hru⟩, _, _, rfl, ⟨b, ws, rfl, hb, hrw⟩, rfl⟩ := r1
  have hul : us.length = ws.length := by rw [← hru.length, ← hrw.length]; exact hl
  obtain ⟨z1, z2⟩ := e1.fr p _ hL gp (fun _ z => nomatch z)
  have eb := (ex.trans e1).base np z2
  refine ⟨a, b, us, ws, rfl, .inl ⟨SqL.of (e1.sub _ _ ha), SqL.of (e1.sub _ _ hb), ?_⟩⟩
  refine for_zip (Sq := SqL K) (xs := us) (ys := ws) hul (fun j => OSt K (I j) i p G1 (del H1 p) B1) ⟨ρ, ds, B1, G1, vs, i0, Ext.back e1.sub, en.mono e1.le, hp, z2, z1, hr.mono e1.le⟩ (fun j σ' H' _ ⟨_, _, _, G', _, _, e2, _⟩ => ⟨SqL.of (e2.sub _ _ (e2.le.keep _ _ ha nopen_lst)), SqL.of (e2.sub _ _ (e2.le.keep _ _ hb nopen_lst))⟩) ?_ ?_
  · rintro j v w T σ' H' hi hi2 ⟨ρ', ds', B', G', vs', hI, e2, en2, hp', gp', hL', hr'⟩ hT
    obtain ⟨dx, hdx, rx⟩ := hru.get' hi
    obtain ⟨dy, hdy, ry⟩ := hrw.get' hi2
    have gT : G' T = none := by
      cases z : G' T with
      | none => rfl
      | some u => rw [e2.sub _ _ z] at hT; cases hT
    have e3 := Ext.new (B := B') (o := .tup [v, w]) e2.sub hT
    have hpT : p ≠ T := ne_of_none hL' hT
    exact wo_round (x := .tup [dx, dy]) (hs j dx dy ρ' ds' B' hdx hdy hI) delD_same (e2.trans e3) (en2.mono e3.le) hp' (by rw [upd_ne hpT]; exact gp') (by rw [upd_ne hpT]; exact hL') (hr'.mono e3.le) ⟨T, [v, w], rfl, SqT.of upd_same, v, [w], rfl, (rx.mono e2.le).mono e3.le, w, [], rfl, (ry.mono e2.le).mono e3.le, rfl⟩ (x.ext eb) (q.ext eb) OSt.ok
  · rintro σ' H' ⟨ρ', ds', B', G', vs', hI, e2, en2, hp', gp', hL', hr'⟩
    rw [← hru.length] at hI
    exact q.nx _ _ _ _ _ _ _ (hd _ _ _ hI) (eb.trans e2) en2 hp' gp' hL' hr'
end
end AW

set_option linter.all false
set_option maxRecDepth 100000
set_option maxHeartbeats 4000000
namespace AW
open PySem PySem.Spec PyProof.Rows L2 RZ
variable [Tbs]
/-! lists owned from a comprehension on, or from a parallel assignment; filters over a range; any -/
section
variable {K : PySem.W.Frag} {E E' E1 : XK} {e : EW} {ρ : List (Option D)} {B : Int} {k : KD} {κ : KS} {κo : KO} {ta tb tl te : TE} {tt : TT} {t : TA} {ts us : TS} {g : TG} {i j sl : Nat} {ds : List D}
/-- x = [g(y) for y in ys], owned -/
theorem wb_lcL {α : Type} {f g : α → D} (hi : i < ρ.length) (h : We K E e tl ρ B fun d B1 => ∃ xs : List α, d = .lst (xs.map f) ∧ xs.length < sizeLine ∧ (∀ x ∈ xs, ∀ k' : KD, k' (g x) B1 → We K E1 noE te ((ρ.set sl none).set sl (some (f x))) B1 k') ∧ Wsb K E e us (ρ.set i none) B1 i (xs.map g) κ) :
    Ws K E e (tSeq (tAsg (tLc (iList K tl) (gName sl) tYes te [sl]) (gName i)) us) ρ B κ := fun σ H G Dn s en x q =>
  h σ H G _ s en x fun d v B1 G1 H1 ⟨xs, ed, jl, hs, hd⟩ e1 r1 => by
    subst ed
    obtain ⟨a, vs, rfl, ha, hr⟩ := r1
    refine ⟨a, rfl, ⟨vs, SqL.of (e1.sub _ _ ha)⟩, fun L nL => ?_⟩
    have hlen := hr.length
    rw [List.length_map] at hlen
    refine lc_list (xs := vs) (fun m H' => LcOk K (fun out B => out.length ≤ m ∧ (out = (xs.take m).map g ∧ B1 = B)) L G1 H1 B1 H') (lc_start e1.sub nL ⟨Nat.le_refl _, rfl, rfl⟩) (fun m H' _ z => SqL.of (z.kept ha nopen_lst)) ?_ ?_
    · intro m y H' hm hz
      obtain ⟨dx, hdx, rx⟩ := hr.get' hm
      have hlt : m < vs.length := (List.getElem?_eq_some_iff.mp hm).1
      rw [List.getElem?_map] at hdx
      obtain ⟨z, hz1, hz2⟩ := Option.map_eq_some_iff.mp hdx
      subst hz2
      refine lc_step (E1 := E1) (I := fun m out B => out = (xs.take m).map g ∧ B1 = B) nL e1.sub (en.mono e1.le) hz (by omega) rx (fun out B' hI => ?_)
      obtain ⟨eo, eB⟩ := hI
      subst eo eB
      refine wt_yes ⟨fun _ => hs z (List.mem_of_getElem? hz1) _ ⟨?_, rfl⟩, fun z => nomatch z⟩
      rw [List.take_add_one, hz1, List.map_append]
      rfl
    · intro H' hz
      obtain ⟨out, B', G', acc, hI, e2, gL, hL, hr2⟩ := hz
      obtain ⟨_, eo, eB⟩ := hI
      subst eo eB
      have en1 : EnvR K G' B1 (ρ.set i none) (σ.set i (some (.ref L))) := EnvR.weakAt i (en.mono (e1.trans e2).le)
      rw [← hlen, List.take_length] at hr2
      refine hd _ H' G' Dn G1 H1 B1 L acc e2.sub en1 ?_ nL gL hL hr2 e2 (x.ext e1) (q.ext e1)
      rw [List.getElem?_set_self (by rw [← en.len]; exact hi)]
/-- x, y = e, [] : the list owned -/
theorem wb_startPar (hij : j ≠ i) (hi : i < ρ.length) (h : We K E e ta ρ B fun d B1 => Wsb K E e us ((ρ.set j (some d)).set i none) B1 i [] κ) : Ws K E e (tSeq (tPar j i (tCons ta (tCons (tLst tNil) tNil))) us) ρ B κ := fun σ H G Dn s en x q =>
  h σ H G _ s en x fun d v B1 G1 H1 hb e1 r1 => ⟨by decide, fun p np => by
    have g : G1 p = none := by
      cases z : G1 p with
      | none => rfl
      | some u => rw [e1.sub _ _ z] at np; cases np
    have ex : Ext G1 H1 B1 G1 (upd H1 p (.lst [])) B1 := Ext.hid e1.sub np
    have en1 : EnvR K G1 B1 ((ρ.set j (some d)).set i none) ((σ.set j (some v)).set i (some (.ref p))) := EnvR.weakAt i (EnvR.set r1 j (en.mono e1.le))
    refine ⟨v, .ref p, rfl, hb _ _ G1 Dn G1 H1 B1 p [] ex.sub en1 ?_ np g upd_same rfl ex (x.ext e1) (q.ext e1)⟩
    rw [List.getElem?_set_self (by rw [List.length_set, ← en.len]; exact hi)]⟩
/-- a, b, c = e with a look at the list owned; e is a tuple of integers -/
theorem wb_asg3R {j1 j2 j3 : Nat} (h1 : j1 ≠ i) (h2 : j2 ≠ i) (h3 : j3 ≠ i) (h : We K E e ta (ρ.set i (some (.lst ds))) B fun d B1 => ∃ a b c : Int, d = .tup [.int a, .int b, .int c] ∧ Wsb K E e us (((ρ.set j1 (some (.int a))).set j2 (some (.int b))).set j3 (some (.int c))) B1 i ds κ) : Wsb K E e (tSeq (tAsg ta (gTup K 3 (gCons (gName j1) (gCons (gName j2) (gCons (gName j3) gNil))))) us) ρ B i ds κ := fun σ H G Dn G0 H0 B0 p vs s en hp np gp hL hr ex x q => by
  have le : Le G B (upd G p (.lst vs)) B := Le.of_sub (fun a o z => by rw [upd_ne (ne_of_none z gp)]; exact z) (Int.le_refl _)
  have sp : Sub (upd G p (.lst vs)) H := fun a o z => by
    by_cases w : a = p
    · subst w; rw [upd_same] at z; cases z; exact hL
    · rw [upd_ne w] at z; exact s _ _ z
  have e0 : Ext G0 H0 B0 (upd G p (.lst vs)) H B := ⟨ex.le.trans le, sp, fun a o z n t => by
    rw [upd_ne (ne_of_none z np)]
    exact ex.fr _ _ z n t⟩
  have en1 := EnvR.set (d := .lst ds) (v := .ref p) ⟨p, vs, rfl, upd_same, hr.mono le⟩ i (en.mono le)
  rw [set_id hp] at en1
  refine h σ H _ _ sp en1 (x.ext e0) fun d v B1 G1 H1 ⟨a, b, c, ed, hb⟩ e1 rv => ?_
  subst ed
  obtain ⟨T, ws, rfl, hT, va, _, rfl, ra, vb, _, rfl, rb, vc, _, rfl, rc, rfl⟩ := rv
  rw [show va = _ from ra, show vb = _ from rb, show vc = _ from rc] at hT
  refine ⟨T, [.int a, .int b, .int c], rfl, (Le.of_sub (B := B1) (B' := B1) e1.sub (Int.le_refl _)).seqT hT, rfl, _, _, rfl, _, _, rfl, _, _, rfl, rfl, ?_⟩
  have gp1 : G1 p = some (.lst vs) := e1.le.keep p _ upd_same nopen_lst
  let G2 : Hp := fun b => if b = p then none else G1 b
  have g2 : ∀ b, b ≠ p → G2 b = G1 b := fun b hb => if_neg hb
  have g2p : G2 p = none := if_pos rfl
  have s2 : Sub G2 H1 := fun b o z => by
    by_cases w : b = p
    · rw [w, g2p] at z; cases z
    · rw [g2 b w] at z; exact e1.sub _ _ z
  have le2 : Le G B G2 B1 := by
    refine ⟨e1.le.b, fun b o z n => ?_, fun b k l c m r z => ?_, fun z p' hp' => ?_⟩
    · have w : b ≠ p := ne_of_none z gp
      rw [g2 b w]
      exact e1.le.keep b o (by rw [upd_ne w]; exact z) n
    · have w : b ≠ p := ne_of_none z gp
      rw [g2 b w]
      exact e1.le.pen b k l c m r (by rw [upd_ne w]; exact z)
    · obtain ⟨ps, t1, t2, t3⟩ := e1.le.tb (le.tb z) p' hp'
      refine ⟨ps, ?_, t2, fun pos cv hc => ?_⟩
      · rw [g2 _ fun w => by rw [w, gp1] at t1; cases t1]; exact t1
      · obtain ⟨c, y1, y2⟩ := t3 pos cv hc
        refine ⟨c, y1, ?_⟩
        rw [g2 _ fun w => by rw [w, gp1] at y2; unfold LamX.CodeO at y2; cases y2]; exact y2
  have e2 : Ext G0 H0 B0 G2 H1 B1 := ⟨ex.le.trans le2, s2, fun b o z n t => by
    have eA := e0.trans e1
    obtain ⟨y1, y2⟩ := eA.fr b o z n t
    refine ⟨y1, ?_⟩
    rw [g2 b (ne_of_none z np)]
    exact y2⟩
  exact hb _ H1 G2 Dn G0 H0 B0 p vs s2 (EnvR.set (d := .int c) rfl j3 (EnvR.set (d := .int b) rfl j2 (EnvR.set (d := .int a) rfl j1 (en.mono le2)))) (by rw [List.getElem?_set_ne h3, List.getElem?_set_ne h2, List.getElem?_set_ne h1]; exact hp) np g2p (e1.sub _ _ gp1) (hr.mono le2) e2 x q
/-- a state in between -/
theorem wo_cut {s : TS} (J : List (Option D) → List D → Int → Prop) (h1 : Wso K E e s ρ B i ds { κo with nx := J }) (h2 : ∀ ρ' ds' B', J ρ' ds' B' → Wso K E e us ρ' B' i ds' κo) : Wso K E e (tSeq s us) ρ B i ds κo := fun σ H G Dn G0 H0 B0 p vs sb en hp np gp hL hr ex x q =>
  h1 σ H G { Dn with nx := us Dn } G0 H0 B0 p vs sb en hp np gp hL hr ex x ⟨fun ρ' ds' σ' B' G' H' vs' hb ex' en' hp' gp' hL' hr' => h2 _ _ _ hb σ' H' G' Dn G0 H0 B0 p vs' ex'.sub en' hp' np gp' hL' hr' ex' x q, q.rt, q.bk, q.ct⟩
theorem wb_cut {s : TS} (J : List (Option D) → List D → Int → Prop) (h1 : Wso K E e s ρ B i ds { nx := J, rt := κ.rt }) (h2 : ∀ ρ' ds' B', J ρ' ds' B' → Wsb K E e us ρ' B' i ds' κ) : Wsb K E e (tSeq s us) ρ B i ds κ := fun σ H G Dn G0 H0 B0 p vs sb en hp np gp hL hr ex x q =>
  h1 σ H G { Dn with nx := us Dn } G0 H0 B0 p vs sb en hp np gp hL hr ex x ⟨fun ρ' ds' σ' B' G' H' vs' hb ex' en' hp' gp' hL' hr' => h2 _ _ _ hb σ' H' G' Dn G0 H0 B0 p vs' ex'.sub en' hp' np gp' hL' hr' ex' x q, q.rt, fun _ _ _ _ _ _ _ z => z.elim, fun _ _ _ _ _ _ _ z => z.elim⟩
theorem range_step {p : Nat → Bool} {f : Nat → D} {n : Nat} : ((List.range (n + 1)).filter p).map f = ((List.range n).filter p).map f ++ (if p n = true then [f n] else []) := by
  rw [List.range_succ, List.filter_append, List.map_append]
  congr 1
  cases h : p n <;> simp [h]
/-- [j for j in range(n) if p(j)] -/
theorem we_lc_filtR (h : Wa K E e t ρ B fun as B1 => ∃ (n : Nat) (p : Nat → Bool), as = [.int n] ∧ n < sizeLine ∧ n < 2 ^ 62 ∧ (∀ m : Nat, m < n → ∀ kb : Bool → Int → Prop, kb (p m) B1 → Wt K E1 noE tt ((ρ.set sl none).set sl (some (.int (m : Int)))) B1 kb) ∧
    (∀ m : Nat, m < n → ∀ k' : KD, k' (.int (m : Int)) B1 → We K E1 noE te ((ρ.set sl none).set sl (some (.int (m : Int)))) B1 k') ∧ k (.lst (((List.range n).filter p).map fun m : Nat => D.int (m : Int))) B1) :
    We K E e (tLc (iRng1 t) (gName sl) tt te [sl]) ρ B k := we_lc_range1 (E1 := E1) fun σ H G Q s en x q => h σ H G Q s en x fun as vs B1 G1 H1 ⟨n, p, ed, jl, j1, ht, hs, hk⟩ e1 r1 => q as vs B1 G1 H1 ⟨n, ed, by omega, by omega, by omega, fun m out B' => out = ((List.range m).filter p).map (fun m : Nat => D.int (m : Int)) ∧ B' = B1, ⟨rfl, rfl⟩, fun m out B' hm ⟨eo, eB⟩ => by
      subst eB
      rw [Int.zero_add]
      have hm : m < n := by omega
      refine ht m hm _ ⟨fun hb => hs m hm _ ⟨?_, rfl⟩, fun hb => ⟨?_, rfl⟩⟩
      · rw [eo, range_step, hb, if_pos rfl]
      · rw [eo, range_step, hb, if_neg Bool.false_ne_true, List.append_nil], fun out B' _ ⟨eo, eB⟩ => by
      rw [eo, eB, Int.toNat_natCast]
      exact hk⟩ e1 r1
/-- any of them -/
theorem we_any (h : Wa K E e t ρ B fun ds B1 => ∃ bs : List Bool, ds = [.lst (bs.map D.bl)] ∧ k (.bl (bs.any id)) B1) : We K E e (tCB (rAny K) t) ρ B k :=
  we_cb fun σ H G Q s en x q => h σ H G Q s en x fun ds vs B1 G1 H1 ⟨bs, ed, hk⟩ e1 r1 => q ds vs B1 G1 H1 (fun ws H2 G2 Q2 s2 r2 q2 => by
    subst ed
    obtain ⟨v, _, rfl, ⟨a, us, rfl, ha, hr⟩, rfl⟩ := r2
    have z : ∀ (bs : List Bool) (us : List V), RepL K G2 B1 (bs.map D.bl) us → us = bs.map V.bl := by
      intro bs
      induction bs with
      | nil => intro us h; exact h
      | cons b r ih =>
        intro us h
        obtain ⟨v, w, rfl, h1, h2⟩ := h
        rw [show v = _ from h1, ih _ h2]
        rfl
    refine ⟨a, bs, rfl, ?_, q2 _ _ _ _ _ hk (Ext.refl s2) rfl⟩
    rw [← z bs us hr]
    exact SqL.of (s2 _ _ ha)) e1 r1
end
end AW

set_option linter.all false
set_option maxRecDepth 100000
set_option maxHeartbeats 4000000
namespace AW
open PySem PySem.Spec PyProof.Rows L2 RZ
variable [Tbs]
/-! x not in a list; a list against []; two lists owned (a shuffle) -/
section
variable {K : PySem.W.Frag} {E E' E1 : XK} {e : EW} {ρ : List (Option D)} {B : Int} {k : KD} {κ : KS} {κo : KO} {ta tb tl te : TE} {tt : TT} {t : TA} {ts us : TS} {g : TG} {i j sl : Nat} {ds : List D}
theorem ro_ninL {a : D} {ds : List D} (oa : pyOk a = true) (ob : pyOkL ds = true) (sa : SeqAt.shaped (py a) = true) (sb : SeqAt.shaped (.list (pyL ds)) = true) (h : k (.bl (!(pyL ds).any fun z => PyData.eqv z (py a))) B) : Ro K E e (rNinL K) a (.lst ds) B k := fun x y H G Q s r1 r2 _ q =>
  ⟨_, _, Rep.dp s r1 oa, Rep.dp (d := .lst ds) s r2 ob, sa, sb, q (.bl _) _ _ _ _ h (Ext.refl s) rfl⟩
theorem ro_neNil {ds : List D} (h : k (.bl (!ds.isEmpty)) B) : Ro K E e (rNeNil K) (.lst ds) (.lst []) B k := fun x y H G Q s r1 r2 _ q => by
  have d2 := Rep.dp (d := .lst []) s r2 rfl
  obtain ⟨b, ws, rfl, hb, hw⟩ := r2
  have e2 : ws = [] := hw
  subst e2
  have d1 : ds = [] → Dp K H x (.list []) := fun z => by subst z; exact Rep.dp (d := .lst []) s r1 rfl
  obtain ⟨a, vs, rfl, ha, hr⟩ := r1
  have el : vs.isEmpty = ds.isEmpty := by
    have := hr.length
    cases ds <;> cases vs <;> first | rfl | (simp at this)
  refine ⟨a, b, vs, rfl, rfl, SqL.of (s _ _ ha), SqL.of (s _ _ hb), d2, fun z => d1 ?_, ?_⟩
  · subst z
    cases ds with
    | nil => rfl
    | cons => have := hr.length; simp at this
  · rw [el]
    exact q _ _ _ _ _ h (Ext.refl s) rfl
theorem range_stepG {p : Nat → Bool} {f : Nat → D} {n : Nat} : ((List.range (n + 1)).filter p).map f = ((List.range n).filter p).map f ++ (if p n = true then [f n] else []) := by
  rw [List.range_succ, List.filter_append, List.map_append]
  congr 1
  cases h : p n <;> simp [h]
/-- [g(j) for j in range(n) if p(j)] -/
theorem we_lc_filtRG (h : Wa K E e t ρ B fun as B1 => ∃ (n : Nat) (p : Nat → Bool) (g : Nat → D), as = [.int n] ∧ n < sizeLine ∧ n < 2 ^ 62 ∧ (∀ m : Nat, m < n → ∀ kb : Bool → Int → Prop, kb (p m) B1 → Wt K E1 noE tt ((ρ.set sl none).set sl (some (.int (m : Int)))) B1 kb) ∧
    (∀ m : Nat, m < n → p m = true → ∀ k' : KD, k' (g m) B1 → We K E1 noE te ((ρ.set sl none).set sl (some (.int (m : Int)))) B1 k') ∧ k (.lst (((List.range n).filter p).map g)) B1) :
    We K E e (tLc (iRng1 t) (gName sl) tt te [sl]) ρ B k := we_lc_range1 (E1 := E1) fun σ H G Q s en x q => h σ H G Q s en x fun as vs B1 G1 H1 ⟨n, p, g, ed, jl, j1, ht, hs, hk⟩ e1 r1 => q as vs B1 G1 H1 ⟨n, ed, by omega, by omega, by omega, fun m out B' => out = ((List.range m).filter p).map g ∧ B' = B1, ⟨rfl, rfl⟩, fun m out B' hm ⟨eo, eB⟩ => by
      subst eB
      rw [Int.zero_add]
      have hm : m < n := by omega
      refine ht m hm _ ⟨fun hb => hs m hm hb _ ⟨?_, rfl⟩, fun hb => ⟨?_, rfl⟩⟩
      · rw [eo, range_stepG, hb, if_pos rfl]
      · rw [eo, range_stepG, hb, if_neg Bool.false_ne_true, List.append_nil], fun out B' _ ⟨eo, eB⟩ => by
      rw [eo, eB, Int.toNat_natCast]
      exact hk⟩ e1 r1
/-- the list lent is taken back -/
theorem unlend {G0 H0 G H G1 H1 : Hp} {B0 B1 : Int} {p : Addr} {vs : List V} (ex : Ext G0 H0 B0 G H B) (np : H0 p = none) (gp : G p = none) (hL : H p = some (.lst vs)) (e1 : Ext (upd G p (.lst vs)) H B G1 H1 B1) : ∃ G2 : Hp, (∀ b, b ≠ p → G2 b = G1 b) ∧ G2 p = none ∧ Sub G2 H1 ∧ Le G B G2 B1 ∧ Ext G0 H0 B0 G2 H1 B1 ∧ H1 p = some (.lst vs) := by
  have le : Le G B (upd G p (.lst vs)) B := Le.of_sub (fun a o z => by rw [upd_ne (ne_of_none z gp)]; exact z) (Int.le_refl _)
  have sp : Sub (upd G p (.lst vs)) H := fun a o z => by
    by_cases w : a = p
    · subst w; rw [upd_same] at z; cases z; exact hL
    · rw [upd_ne w] at z; exact ex.sub _ _ z
  have e0 : Ext G0 H0 B0 (upd G p (.lst vs)) H B := ⟨ex.le.trans le, sp, fun a o z n t => by
    rw [upd_ne (ne_of_none z np)]
    exact ex.fr _ _ z n t⟩
  have gp1 : G1 p = some (.lst vs) := e1.le.keep p _ upd_same nopen_lst
  let G2 : Hp := fun b => if b = p then none else G1 b
  have g2 : ∀ b, b ≠ p → G2 b = G1 b := fun b hb => if_neg hb
  have g2p : G2 p = none := if_pos rfl
  have s2 : Sub G2 H1 := fun b o z => by
    by_cases w : b = p
    · rw [w, g2p] at z; cases z
    · rw [g2 b w] at z; exact e1.sub _ _ z
  have le2 : Le G B G2 B1 := by
    refine ⟨e1.le.b, fun b o z n => ?_, fun b k l c m r z => ?_, fun z p' hp' => ?_⟩
    · have w : b ≠ p := ne_of_none z gp
      rw [g2 b w]
      exact e1.le.keep b o (by rw [upd_ne w]; exact z) n
    · have w : b ≠ p := ne_of_none z gp
      rw [g2 b w]
      exact e1.le.pen b k l c m r (by rw [upd_ne w]; exact z)
    · obtain ⟨ps, t1, t2, t3⟩ := e1.le.tb (le.tb z) p' hp'
      refine ⟨ps, ?_, t2, fun pos cv hc => ?_⟩
      · rw [g2 _ fun w => by rw [w, gp1] at t1; cases t1]; exact t1
      · obtain ⟨c, y1, y2⟩ := t3 pos cv hc
        refine ⟨c, y1, ?_⟩
        rw [g2 _ fun w => by rw [w, gp1] at y2; unfold LamX.CodeO at y2; cases y2]; exact y2
  exact ⟨G2, g2, g2p, s2, le2, ⟨ex.le.trans le2, s2, fun b o z n t => by
    have eA := e0.trans e1
    obtain ⟨y1, y2⟩ := eA.fr b o z n t
    refine ⟨y1, ?_⟩
    rw [g2 b (ne_of_none z np)]
    exact y2⟩, e1.sub _ _ gp1⟩
theorem lend {G0 H0 G H : Hp} {B0 : Int} {p : Addr} {vs : List V} (ex : Ext G0 H0 B0 G H B) (np : H0 p = none) (gp : G p = none) (hL : H p = some (.lst vs)) : Ext G0 H0 B0 (upd G p (.lst vs)) H B := by
  have le : Le G B (upd G p (.lst vs)) B := Le.of_sub (fun a o z => by rw [upd_ne (ne_of_none z gp)]; exact z) (Int.le_refl _)
  have sp : Sub (upd G p (.lst vs)) H := fun a o z => by
    by_cases w : a = p
    · subst w; rw [upd_same] at z; cases z; exact hL
    · rw [upd_ne w] at z; exact ex.sub _ _ z
  exact ⟨ex.le.trans le, sp, fun a o z n t => by
    rw [upd_ne (ne_of_none z np)]
    exact ex.fr _ _ z n t⟩
theorem Ext.chg {G0 H0 G H : Hp} {B0 : Int} {p : Addr} {o : HO} (ex : Ext G0 H0 B0 G H B) (np : H0 p = none) (gp : G p = none) : Ext G0 H0 B0 G (upd H p o) B :=
  ⟨ex.le, fun a u z => by rw [upd_ne (ne_of_none z gp)]; exact ex.sub _ _ z, fun a u z n t => by rw [upd_ne (ne_of_none z np)]; exact ex.fr _ _ z n t⟩
theorem RepL.eraseIdx {G : Hp} : ∀ {ds : List D} {vs : List V} (n : Nat), RepL K G B ds vs → RepL K G B (ds.eraseIdx n) (vs.eraseIdx n)
  | [], _, _, h => by rw [show _ = _ from h]; exact rfl
  | _ :: _, _, 0, ⟨_, w, rfl, _, h1⟩ => h1
  | _ :: _, _, n + 1, ⟨v0, w, rfl, h0, h1⟩ => ⟨v0, w.eraseIdx n, rfl, h0, RepL.eraseIdx n h1⟩
/-- free, found = list(e), []; while free != []: found.append(free.pop(k)) -/
theorem ws_shuf {iF iO : Nat} (hne : iF ≠ iO) (hF : iF < ρ.length) (hO : iO < ρ.length)
    (h : We K E e tl ρ B fun d B1 => ∃ ds : List D, d = .lst ds ∧ ds.length < sizeLine ∧ ∃ J : List D → List D → Int → Prop, J ds [] B1 ∧
      (∀ fs os B', fs ≠ [] → J fs os B' → We K E e ta (((ρ.set iF none).set iO none).set iF (some (.lst fs))) B' fun c B2 => ∃ (n : Nat) (y : D), c = .int n ∧ n < 2 ^ 62 ∧ fs[n]? = some y ∧ J (fs.eraseIdx n) (os ++ [y]) B2) ∧
      (∀ os B', J [] os B' → Ws K E e us (((ρ.set iF none).set iO none).set iO (some (.lst os))) B' κ)) :
    Ws K E e (tSeq (tPar iF iO (tCons (tCB (fun xs H Q => ∃ p ys, xs = [.ref p] ∧ (SqL K H p ys ∨ SqT K H p ys) ∧ ∀ l, H l = none → Q (.ref l) (upd H l (.lst ys))) (tCons tl tNil)) (tCons (tLst tNil) tNil)))
      (tSeq (tWhile (tTest (tOp (rNeNil K) (tVar iF) (tLst tNil))) (tDrop (tBM K "list" rAppend (tVar iO) (tCons (tBM K "list" rPopAt (tVar iF) (tCons ta tNil)) tNil)))) us)) ρ B κ := fun σ H G Dn s en x q =>
  h σ H G _ s en x fun d v B1 G1 H1 ⟨ds, ed, dl, J, j0, hs, hd⟩ e1 r1 => by
    subst ed
    obtain ⟨a, vs0, rfl, ha, hr0⟩ := r1
    refine ⟨a, vs0, rfl, .inl (SqL.of (e1.sub _ _ ha)), fun p np => ⟨by decide, fun p2 np2 => ?_⟩⟩
    have hp2 : p2 ≠ p := fun z => by subst z; rw [upd_same] at np2; cases np2
    have nq : H1 p2 = none := by rw [upd_ne hp2] at np2; exact np2
    have none_of : ∀ {b : Addr}, H1 b = none → G1 b = none := fun {b} nb => by
      cases z : G1 b with
      | none => rfl
      | some u => rw [e1.sub _ _ z] at nb; cases nb
    have gp := none_of np
    have gq := none_of nq
    refine ⟨.ref p, .ref p2, rfl, ?_⟩
    have exA1 : Ext G1 H1 B1 G1 (upd H1 p (.lst vs0)) B1 := Ext.hid e1.sub np
    have exA : Ext G1 H1 B1 G1 (upd (upd H1 p (.lst vs0)) p2 (.lst [])) B1 := exA1.trans (Ext.hid exA1.sub np2)
    have en1 : EnvR K G1 B1 ((ρ.set iF none).set iO none) ((σ.set iF (some (.ref p))).set iO (some (.ref p2))) := EnvR.weakAt iO (EnvR.weakAt iF (en.mono e1.le))
    have hlF : iF < σ.length := by rw [← en.len]; exact hF
    have hlO : iO < σ.length := by rw [← en.len]; exact hO
    generalize eρ : (ρ.set iF none).set iO none = ρ0 at hs hd en1 ⊢
    refine ⟨fun n σ' H' => ∃ fs os B' G' vs ws, fs.length = n ∧ fs.length + os.length = ds.length ∧ J fs os B' ∧ Ext G1 H1 B1 G' H' B' ∧ EnvR K G' B' ρ0 σ' ∧ σ'[iF]? = some (some (.ref p)) ∧ σ'[iO]? = some (some (.ref p2)) ∧ G' p = none ∧ G' p2 = none ∧ H' p = some (.lst vs) ∧ H' p2 = some (.lst ws) ∧ RepL K G' B' fs vs ∧ RepL K G' B' os ws, ⟨ds.length, ds, [], B1, G1, vs0, [], rfl, by simp, j0, exA, en1, ?_, ?_, gp, gq, ?_, upd_same, hr0, rfl⟩, ?_⟩
    · rw [List.getElem?_set_ne (Ne.symm hne), List.getElem?_set_self hlF]
    · rw [List.getElem?_set_self (by rw [List.length_set]; exact hlO)]
    · rw [upd_ne (Ne.symm hp2)]; exact upd_same
    rintro n σ' H' ⟨fs, os, B', G', vs, ws, hn, hlen, hJ, ex, en', hpF, hpO, gp', gq', hLp, hLq, hrF, hrO⟩
    -- the test
    refine ⟨.ref p, hpF, ?_⟩
    refine ⟨by decide, fun b nb => ?_⟩
    have bp : b ≠ p := fun z => by subst z; rw [hLp] at nb; cases nb
    have bq : b ≠ p2 := fun z => by subst z; rw [hLq] at nb; cases nb
    have hb1 : upd H' b (.lst []) b = some (.lst []) := upd_same
    have hb2 : upd H' b (.lst []) p = some (.lst vs) := by rw [upd_ne (Ne.symm bp)]; exact hLp
    have hb3 : upd H' b (.lst []) p2 = some (.lst ws) := by rw [upd_ne (Ne.symm bq)]; exact hLq
    refine ⟨p, b, vs, rfl, rfl, SqL.of hb2, SqL.of hb1, .lst (SqL.of hb1) .nil, fun z => ?_, ?_⟩
    · subst z; exact .lst (SqL.of hb2) .nil
    have exB : Ext G1 H1 B1 G' (upd H' b (.lst [])) B' := ex.trans (Ext.hid ex.sub nb)
    refine ⟨_, rfl, ?_⟩
    cases fs with
    | nil =>
      have e0 : vs = [] := hrF
      subst e0
      show (if (!([] : List V).isEmpty) = true then _ else _)
      rw [if_neg (by simp)]
      have exC := lend exB nq gq' hb3
      have leO : Le G' B' (upd G' p2 (.lst ws)) B' := Le.of_sub (fun a o z => by rw [upd_ne (ne_of_none z gq')]; exact z) (Int.le_refl _)
      have enC := EnvR.set (d := .lst os) (v := .ref p2) ⟨p2, ws, rfl, upd_same, hrO.mono leO⟩ iO (en'.mono leO)
      rw [set_id hpO] at enC
      exact hd os B' hJ _ _ _ Dn exC.sub enC (x.ext (e1.trans exC)) (q.ext (e1.trans exC))
    | cons y0 r0 =>
      have hvs : vs.isEmpty = false := by
        have := hrF.length
        cases vs with
        | nil => simp at this
        | cons => rfl
      rw [hvs, Bool.not_false, if_pos rfl]
      refine ⟨fun σ3 H3 => ∃ n', n' < n ∧ ∃ fs os B' G' vs ws, fs.length = n' ∧ fs.length + os.length = ds.length ∧ J fs os B' ∧ Ext G1 H1 B1 G' H3 B' ∧ EnvR K G' B' ρ0 σ3 ∧ σ3[iF]? = some (some (.ref p)) ∧ σ3[iO]? = some (some (.ref p2)) ∧ G' p = none ∧ G' p2 = none ∧ H3 p = some (.lst vs) ∧ H3 p2 = some (.lst ws) ∧ RepL K G' B' fs vs ∧ RepL K G' B' os ws, fun _ _ z => z, ?_⟩
      refine ⟨.ref p2, hpO, .inl ⟨rfl, ws, SqL.of hb3⟩, ?_⟩
      refine ⟨.ref p, hpF, .inl ⟨rfl, vs, SqL.of hb2⟩, ?_⟩
      have exL := lend exB np gp' hb2
      have leF : Le G' B' (upd G' p (.lst vs)) B' := Le.of_sub (fun a o z => by rw [upd_ne (ne_of_none z gp')]; exact z) (Int.le_refl _)
      have enL := EnvR.set (d := .lst (y0 :: r0)) (v := .ref p) ⟨p, vs, rfl, upd_same, hrF.mono leF⟩ iF (en'.mono leF)
      rw [set_id hpF] at enL
      refine hs (y0 :: r0) os B' (by simp) hJ σ' _ _ _ exL.sub enL (x.ext (e1.trans exL)) fun c w B2 G2 H2 ⟨m, y, ec, hm62, hy, hJ2⟩ e2 rw_ => ?_
      subst ec
      rw [show w = _ from rw_]
      obtain ⟨G3, g3, g3p, s3, le3, ex3, hL3⟩ := unlend exB np gp' hb2 e2
      obtain ⟨z1, z2⟩ := e2.fr p2 _ hb3 (by rw [upd_ne hp2]; exact gq') (fun _ z => nomatch z)
      have g3q : G3 p2 = none := by rw [g3 p2 hp2]; exact z2
      have hml : m < vs.length := by rw [← hrF.length]; exact (List.getElem?_eq_some_iff.mp hy).1
      have hv : vs[m]? = some vs[m] := List.getElem?_eq_getElem hml
      obtain ⟨dx, hdx, rx⟩ := hrF.get' hv
      have edx : dx = y := by rw [hy] at hdx; cases hdx; rfl
      subst edx
      refine ⟨p, vs, (m : Int), m, vs[m], rfl, rfl, hL3, by omega, by omega, ?_, hv, ?_⟩
      · unfold seqIndex?
        simp
        omega
      refine ⟨p2, ws, vs[m], rfl, rfl, by rw [upd_ne hp2]; exact z1, ?_, ?_⟩
      · have := hrO.length
        simp only [List.length_cons] at hlen
        omega
      refine ⟨(r0.length), by simp only [List.length_cons] at hn; omega, (y0 :: r0).eraseIdx m, os ++ [dx], B2, G3, vs.eraseIdx m, ws ++ [vs[m]], ?_, ?_, hJ2, (ex3.chg np g3p).chg nq g3q, en'.mono le3, hpF, hpO, g3p, g3q, ?_, upd_same, RepL.eraseIdx m (hrF.mono le3), (hrO.mono le3).append ⟨vs[m], [], rfl, rx.mono le3, rfl⟩⟩
      · rw [List.length_eraseIdx_of_lt (by have := hrF.length; omega)]
        simp
      · rw [List.length_eraseIdx_of_lt (by have := hrF.length; omega), List.length_append]
        simp only [List.length_cons] at hlen ⊢
        simp
        omega
      · rw [upd_ne (Ne.symm hp2)]; exact upd_same
end
end AW

set_option linter.all false
set_option maxRecDepth 100000
set_option maxHeartbeats 4000000
namespace AW
open PySem PySem.Spec PyProof.Rows L2 RZ
variable [Tbs]
/-! a def held in a variable; a list copied and owned -/
section
variable {K : PySem.W.Frag} {E E' E1 : XK} {e : EW} {ρ : List (Option D)} {B : Int} {k : KD} {κ : KS} {κo : KO} {ta tb tl te : TE} {tt : TT} {t : TA} {ts us : TS} {g : TG} {i j sl : Nat} {ds : List D} {pr : Pr}
theorem we_callL {f : Addr} (hi : ρ[i]? = some (some (.val (.ref f)))) (h : We K E e (tCall (spD K pr) [] E' t) ρ B k) : We K E e (tCallL i f (spD K pr) [] E' t) ρ B k := fun σ H G Q s en x q => ⟨by
  obtain ⟨v, h1, h2⟩ := en.get hi
  rw [h1, show v = _ from h2], h σ H G Q s en x q⟩
theorem wb_startL (hi : i < ρ.length) (h : Wa K E e t ρ B fun as B1 => ∃ ds : List D, as = [.lst ds] ∧ Wsb K E e us (ρ.set i none) B1 i ds κ) :
    Ws K E e (tSeq (tAsg (tCB (fun xs H Q => ∃ p ys, xs = [.ref p] ∧ (SqL K H p ys ∨ SqT K H p ys) ∧ ∀ l, H l = none → Q (.ref l) (upd H l (.lst ys))) t) (gName i)) us) ρ B κ := fun σ H G Dn s en x q =>
  h σ H G _ s en x fun as vs B1 G1 H1 ⟨ds, ed, h1⟩ e1 r1 => by
    subst ed
    obtain ⟨v, _, rfl, ⟨a, us0, rfl, ha, hr⟩, rfl⟩ := r1
    refine ⟨a, us0, rfl, .inl (SqL.of (e1.sub _ _ ha)), fun p np => ?_⟩
    have g : G1 p = none := by
      cases z : G1 p with
      | none => rfl
      | some u => rw [e1.sub _ _ z] at np; cases np
    have ex : Ext G1 H1 B1 G1 (upd H1 p (.lst us0)) B1 := Ext.hid e1.sub np
    refine h1 _ _ G1 Dn G1 H1 B1 p us0 ex.sub (EnvR.weakAt i (en.mono e1.le)) ?_ np g upd_same hr ex (x.ext e1) (q.ext e1)
    rw [List.getElem?_set_self (by rw [← en.len]; exact hi)]
end
end AW

set_option linter.all false
set_option maxHeartbeats 4000000
namespace Rt
/-! roots of places -/
def h (n : Int) : Int := (n * (n - 1)).fdiv 2
theorem two_h (n : Int) : 2 * h n = n * (n - 1) := by
  have e : (n * (n - 1)).fmod 2 = 0 := by
    rw [Int.fmod_eq_emod_of_nonneg _ (by decide)]
    rcases Int.emod_two_eq n with z | z
    · rw [Int.mul_emod, z]; simp
    · rw [Int.mul_emod, Int.sub_emod, z]; simp
  have := Int.mul_fdiv_add_fmod (n * (n - 1)) 2
  rw [e] at this
  unfold h
  omega
/-- (X, Y, A) done n times -/
def Is (x y a n X Y A : Int) : Prop := x = n * X ∧ y = n * Y ∧ a = n * A + X * Y * h n
def Has (x y a n : Int) : Prop := ∃ X Y A, Is x y a n X Y A
theorem is_unique {x y a n X Y A X' Y' A' : Int} (nz : n ≠ 0) (p : Is x y a n X Y A) (q : Is x y a n X' Y' A') : X = X' ∧ Y = Y' ∧ A = A' := by
  obtain ⟨p1, p2, p3⟩ := p
  obtain ⟨q1, q2, q3⟩ := q
  have e1 : X = X' := Int.eq_of_mul_eq_mul_left nz (p1.symm.trans q1)
  have e2 : Y = Y' := Int.eq_of_mul_eq_mul_left nz (p2.symm.trans q2)
  subst e1 e2
  refine ⟨rfl, rfl, Int.eq_of_mul_eq_mul_left nz (by omega)⟩
theorem h_mul (n m : Int) : h (n * m) = n * h m + m * m * h n := by
  have e1 := two_h (n * m)
  have e2 := two_h n
  have e3 := two_h m
  have : 2 * h (n * m) = 2 * (n * h m + m * m * h n) := by grind
  omega
/-- the root of a power -/
theorem is_part {x y a N X Y A n m : Int} (p : Is x y a N X Y A) (e : N = n * m) : Is x y a n (m * X) (m * Y) (m * A + X * Y * h m) := by
  obtain ⟨p1, p2, p3⟩ := p
  subst e
  refine ⟨by rw [p1]; grind, by rw [p2]; grind, ?_⟩
  rw [p3, h_mul]
  grind
theorem is_times {x y a n X Y A t : Int} (p : Is x y a n X Y A) : Is (t * x) (t * y) (t * a + h t * x * y) (n * t) X Y A := by
  obtain ⟨p1, p2, p3⟩ := p
  refine ⟨by rw [p1]; grind, by rw [p2]; grind, ?_⟩
  rw [Int.mul_comm n t, h_mul, p3, p1, p2]
  grind
/-- whether there is one: by the parity -/
theorem has_iff {x y a n X Y W : Int} (nz : n ≠ 0) (ex : x = n * X) (ey : y = n * Y) (ew : 2 * a = n * W) : Has x y a n ↔ (W - X * Y * (n - 1)) % 2 = 0 := by
  constructor
  · rintro ⟨X', Y', A, p1, p2, p3⟩
    have e1 : X = X' := Int.eq_of_mul_eq_mul_left nz (ex.symm.trans p1)
    have e2 : Y = Y' := Int.eq_of_mul_eq_mul_left nz (ey.symm.trans p2)
    subst e1 e2
    have t := two_h n
    have : n * W = n * (2 * A + X * Y * (n - 1)) := by grind
    have e := Int.eq_of_mul_eq_mul_left nz this
    omega
  · intro e
    refine ⟨X, Y, (W - X * Y * (n - 1)) / 2, ex, ey, ?_⟩
    have t := two_h n
    have d : W - X * Y * (n - 1) = 2 * ((W - X * Y * (n - 1)) / 2) := by omega
    generalize (W - X * Y * (n - 1)) / 2 = A at d ⊢
    have : 2 * a = 2 * (n * A + X * Y * h n) := by grind
    omega
theorem has_dvd {x y a n : Int} (p : Has x y a n) : n ∣ x ∧ n ∣ y ∧ n ∣ 2 * a := by
  obtain ⟨X, Y, A, p1, p2, p3⟩ := p
  have t := two_h n
  exact ⟨⟨X, p1⟩, ⟨Y, p2⟩, ⟨2 * A + X * Y * (n - 1), by grind⟩⟩
theorem par_mul {W V m : Int} (hm : m % 2 = 1) : (m * W - m * m * V) % 2 = (W - V) % 2 := by
  rw [Int.sub_emod, Int.mul_emod, Int.mul_emod (m * m) V, Int.mul_emod m m, hm, Int.sub_emod W V]
  simp
structure Gr (x y a g X Y W : Int) : Prop where
  pos : 0 < g
  ex : x = g * X
  ey : y = g * Y
  ew : 2 * a = g * W
  gr : ∀ n, n ∣ x → n ∣ y → n ∣ 2 * a → n ∣ g
theorem Gr.dvd {x y a g X Y W n : Int} (G : Gr x y a g X Y W) (hn : 0 < n) (p : Has x y a n) (no : ¬ Has x y a g) : ∃ m, g = n * (2 * m) := by
  obtain ⟨d1, d2, d3⟩ := has_dvd p
  obtain ⟨m, em⟩ := G.gr n d1 d2 d3
  have nz : n ≠ 0 := by omega
  have q := (has_iff (X := m * X) (Y := m * Y) (W := m * W) nz (by rw [G.ex, em]; grind) (by rw [G.ey, em]; grind) (by rw [G.ew, em]; grind)).mp p
  rcases Int.emod_two_eq m with z | z
  · exact ⟨m / 2, by rw [em, show m = 2 * (m / 2) from by omega]; congr 1; omega⟩
  · exfalso
    apply no
    refine (has_iff (by have := G.pos; omega) G.ex G.ey G.ew).mpr ?_
    have e : m * W - m * X * (m * Y) * (n - 1) = m * W - m * m * (X * Y * (n - 1)) := by grind
    rw [e, par_mul z] at q
    have e2 : X * Y * (g - 1) = X * Y * (n - 1) + X * Y * (n * (m - 1)) := by rw [em]; grind
    obtain ⟨j, ej⟩ : ∃ j, m - 1 = 2 * j := ⟨(m - 1) / 2, by omega⟩
    rw [e2, ej]
    have e3 : X * Y * (n * (2 * j)) = 2 * (X * Y * n * j) := by grind
    rw [e3]
    omega
theorem one_has (x y a : Int) : Has x y a 1 := ⟨x, y, a, by omega, by omega, by
  have : h 1 = 0 := by decide
  rw [this]; omega⟩
theorem Gr.half {x y a g X Y W : Int} (G : Gr x y a g X Y W) (no : ¬ Has x y a g) : ∃ k, g = 2 * k ∧ 0 < k ∧ Has x y a k := by
  obtain ⟨m, em⟩ := G.dvd (by decide) (one_has x y a) no
  refine ⟨m, by omega, by have := G.pos; omega, ?_⟩
  have mz : m ≠ 0 := by have := G.pos; omega
  refine (has_iff (X := 2 * X) (Y := 2 * Y) (W := 2 * W) mz (by rw [G.ex, em]; grind) (by rw [G.ey, em]; grind) (by rw [G.ew, em]; grind)).mpr ?_
  have e : 2 * X * (2 * Y) * (m - 1) = 2 * (2 * X * Y * (m - 1)) := by grind
  rw [e]
  omega
/-- the greatest number with a root: g, or the half of g -/
def Top (x y a N : Int) : Prop := 0 < N ∧ Has x y a N ∧ ∀ n, 0 < n → (Has x y a n ↔ n ∣ N)
theorem top_of {x y a N : Int} (hN : 0 < N) (p : Has x y a N) (h : ∀ n, 0 < n → Has x y a n → n ∣ N) : Top x y a N := ⟨hN, p, fun n hn => ⟨h n hn, fun ⟨m, em⟩ => by
  obtain ⟨X, Y, A, q⟩ := p
  exact ⟨_, _, _, is_part q em⟩⟩⟩
theorem Gr.top1 {x y a g X Y W : Int} (G : Gr x y a g X Y W) (p : Has x y a g) : Top x y a g := top_of G.pos p fun n _ q => by
  obtain ⟨d1, d2, d3⟩ := has_dvd q
  exact G.gr n d1 d2 d3
theorem Gr.top2 {x y a g X Y W : Int} (G : Gr x y a g X Y W) (no : ¬ Has x y a g) : ∃ k, g = 2 * k ∧ 0 < k ∧ Top x y a k := by
  obtain ⟨k, e1, e2, e3⟩ := G.half no
  refine ⟨k, e1, e2, top_of e2 e3 fun n hn q => ?_⟩
  obtain ⟨m, em⟩ := G.dvd hn q no
  exact ⟨m, by have : 2 * k = 2 * (n * m) := by rw [← e1, em]; grind
               omega⟩
theorem top_unique {x y a N M : Int} (p : Top x y a N) (q : Top x y a M) : N = M := by
  have d1 := (q.2.2 N p.1).mp p.2.1
  have d2 := (p.2.2 M q.1).mp q.2.1
  have l1 := Int.le_of_dvd q.1 d1
  have l2 := Int.le_of_dvd p.1 d2
  omega
end Rt
namespace Rt
theorem Gr.times {x y a g X Y W t : Int} (G : Gr x y a g X Y W) (tz : t ≠ 0) : ∃ X' Y' W', Gr (t * x) (t * y) (t * a + h t * x * y) (g * t.natAbs) X' Y' W' ∧ ((W' - X' * Y' * (g * t.natAbs - 1)) % 2 = 0 ↔ (W - X * Y * (g - 1)) % 2 = 0) := by
  have two : 2 * (t * a + h t * x * y) = t * (2 * a) + t * x * ((t - 1) * y) := by have := two_h t; grind
  have gr : ∀ n, n ∣ t * x → n ∣ t * y → n ∣ 2 * (t * a + h t * x * y) → n ∣ g * t.natAbs := fun n h1 h2 h3 => by
    have h4 : n ∣ t * (2 * a) := by
      rw [two] at h3
      exact (Int.dvd_add_left (Int.dvd_mul_of_dvd_left h1)).mp h3
    have m1 := Int.natAbs_dvd_natAbs.mpr h1
    have m2 := Int.natAbs_dvd_natAbs.mpr h2
    have m3 := Int.natAbs_dvd_natAbs.mpr h4
    rw [Int.natAbs_mul] at m1 m2 m3
    have d := Nat.dvd_gcd (Nat.dvd_gcd m1 m2) m3
    rw [Nat.gcd_mul_left, Nat.gcd_mul_left] at d
    have e : (((x.natAbs.gcd y.natAbs).gcd (2 * a).natAbs : Nat) : Int) ∣ g := by
      refine G.gr _ ?_ ?_ ?_
      · exact Int.natAbs_dvd_natAbs.mp (by rw [Int.natAbs_natCast]; exact Nat.dvd_trans (Nat.gcd_dvd_left _ _) (Nat.gcd_dvd_left _ _))
      · exact Int.natAbs_dvd_natAbs.mp (by rw [Int.natAbs_natCast]; exact Nat.dvd_trans (Nat.gcd_dvd_left _ _) (Nat.gcd_dvd_right _ _))
      · exact Int.natAbs_dvd_natAbs.mp (by rw [Int.natAbs_natCast]; exact Nat.gcd_dvd_right _ _)
    have e2 := Int.natAbs_dvd_natAbs.mpr e
    rw [Int.natAbs_natCast] at e2
    refine Int.natAbs_dvd_natAbs.mp ?_
    rw [Int.natAbs_mul, Int.natAbs_natCast, Nat.mul_comm g.natAbs]
    exact Nat.dvd_trans d (Nat.mul_dvd_mul (Nat.dvd_refl _) e2)
  have gp := G.pos
  have e1 := G.ex
  have e2 := G.ey
  have e3 := G.ew
  rcases Int.lt_or_lt_of_ne tz with z | z
  · have et : (t.natAbs : Int) = -t := by omega
    rw [et] at gr ⊢
    refine ⟨-X, -Y, -(W + (t - 1) * g * X * Y), ⟨Int.mul_pos gp (by omega), by rw [e1]; grind, by rw [e2]; grind, by rw [two, e3, e1, e2]; grind, gr⟩, ?_⟩
    have e : -(W + (t - 1) * g * X * Y) - -X * -Y * (g * -t - 1) = -(W - X * Y * (g - 1)) + 2 * (X * Y) := by grind
    rw [e]
    omega
  · have et : (t.natAbs : Int) = t := by omega
    rw [et] at gr ⊢
    refine ⟨X, Y, W + (t - 1) * g * X * Y, ⟨Int.mul_pos gp z, by rw [e1]; grind, by rw [e2]; grind, by rw [two, e3, e1, e2]; grind, gr⟩, ?_⟩
    have e : W + (t - 1) * g * X * Y - X * Y * (g * t - 1) = W - X * Y * (g - 1) := by grind
    rw [e]
theorem Gr.top_times {x y a g X Y W t N : Int} (G : Gr x y a g X Y W) (tz : t ≠ 0) (p : Top x y a N) : Top (t * x) (t * y) (t * a + h t * x * y) (N * t.natAbs) := by
  obtain ⟨X', Y', W', G', e⟩ := G.times tz
  have gz : g ≠ 0 := by have := G.pos; omega
  have gz' : g * t.natAbs ≠ 0 := by have := G'.pos; omega
  have eq : Has (t * x) (t * y) (t * a + h t * x * y) (g * t.natAbs) ↔ Has x y a g := by
    rw [has_iff gz' G'.ex G'.ey G'.ew, has_iff gz G.ex G.ey G.ew]
    exact e
  by_cases hh : Has x y a g
  · rw [top_unique p (G.top1 hh)]
    exact G'.top1 (eq.mpr hh)
  · obtain ⟨k, k1, k2, k3⟩ := G.top2 hh
    obtain ⟨k', q1, q2, q3⟩ := G'.top2 (fun z => hh (eq.mp z))
    rw [top_unique p k3, show k * (t.natAbs : Int) = k' from by
      have : 2 * (k * (t.natAbs : Int)) = 2 * k' := by rw [← q1, k1]; grind
      omega]
    exact q3
end Rt

set_option linter.all false
set_option maxHeartbeats 1000000
/-! The greatest common divisor by taking multiples off, with the two numbers that make it. -/
namespace Bz
/-- (a, b, r) with a * f + b * s = r -/
structure Tr where
  a : Int
  b : Int
  r : Int
def stp (l h : Tr) : Tr := ⟨l.a - l.r.fdiv h.r * h.a, l.b - l.r.fdiv h.r * h.b, l.r - l.r.fdiv h.r * h.r⟩
structure In (f s : Int) (l h : Tr) : Prop where
  el : l.a * f + l.b * s = l.r
  eh : h.a * f + h.b * s = h.r
  g : Nat.gcd l.r.natAbs h.r.natAbs = Nat.gcd f.natAbs s.natAbs
  fa : h.a.natAbs * l.r.natAbs + l.a.natAbs * h.r.natAbs ≤ f.natAbs + 2 * s.natAbs
  fb : h.b.natAbs * l.r.natAbs + l.b.natAbs * h.r.natAbs ≤ f.natAbs + 2 * s.natAbs
  la : l.a.natAbs ≤ f.natAbs + 2 * s.natAbs + 1
  lb : l.b.natAbs ≤ f.natAbs + 2 * s.natAbs + 1
  sg : 0 ≤ l.r * h.r
  lt : h.r.natAbs < l.r.natAbs
  lr : l.r.natAbs ≤ f.natAbs + s.natAbs
theorem fmod_sg (x y : Int) (h : y ≠ 0) : 0 ≤ y * (x - x.fdiv y * y) ∧ (x - x.fdiv y * y).natAbs < y.natAbs := by
  have e : x - x.fdiv y * y = x.fmod y := by
    have := Int.mul_fdiv_add_fmod x y
    rw [Int.mul_comm] at this
    omega
  rw [e]
  rcases Int.lt_or_gt_of_ne h with h | h
  · have h1 : x.fmod y = -((-x).fmod (-y)) := by rw [Int.neg_fmod_neg]; omega
    have h2 := Int.fmod_nonneg_of_pos (-x) (show 0 < -y by omega)
    have h3 := Int.fmod_lt_of_pos (-x) (show 0 < -y by omega)
    refine ⟨?_, by omega⟩
    rw [h1]
    have := Int.mul_nonneg (show 0 ≤ -y by omega) h2
    grind
  · have h2 := Int.fmod_nonneg_of_pos x h
    have h3 := Int.fmod_lt_of_pos x h
    exact ⟨Int.mul_nonneg (by omega) h2, by omega⟩
theorem gcd_stp (x y t : Int) : Nat.gcd y.natAbs (x - t * y).natAbs = Nat.gcd x.natAbs y.natAbs := by
  rw [← Int.gcd_eq_natAbs_gcd_natAbs, ← Int.gcd_eq_natAbs_gcd_natAbs]
  rw [Int.gcd_comm x y, Int.gcd_sub_mul_right_right]
theorem abs_sub_mul (a t b : Int) : (a - t * b).natAbs ≤ a.natAbs + t.natAbs * b.natAbs := by
  rw [← Int.natAbs_mul]
  omega
theorem sgn_neg {x y : Int} (h : y < 0) (s : 0 ≤ x * y) : x ≤ 0 := by
  apply Classical.byContradiction
  intro z
  have := Int.mul_neg_of_pos_of_neg (show 0 < x by omega) h
  omega
theorem sgn_pos {x y : Int} (h : 0 < y) (s : 0 ≤ x * y) : 0 ≤ x := by
  apply Classical.byContradiction
  intro z
  have := Int.mul_neg_of_neg_of_pos (show x < 0 by omega) h
  omega
/-- same sign: the quotient's parts add up -/
theorem add_up {x y : Int} (h : y ≠ 0) (sg : 0 ≤ x * y) : (x.fdiv y).natAbs * y.natAbs + (x - x.fdiv y * y).natAbs = x.natAbs := by
  obtain ⟨h1, h2⟩ := fmod_sg x y h
  generalize x.fdiv y = t at h1 h2 ⊢
  rw [← Int.natAbs_mul]
  rcases Int.lt_or_gt_of_ne h with h | h
  · have hx : x ≤ 0 := sgn_neg h sg
    have hr : x - t * y ≤ 0 := sgn_neg h (by rw [Int.mul_comm]; exact h1)
    have ht : t * y ≤ 0 := by
      apply Classical.byContradiction; intro z
      have ht0 : t < 0 := by
        apply Classical.byContradiction; intro z2
        have := Int.mul_nonneg (show 0 ≤ t by omega) (show 0 ≤ -y by omega)
        rw [Int.mul_neg] at this
        omega
      have := Int.mul_le_mul_of_nonpos_right (show t ≤ -1 by omega) (show y ≤ 0 by omega)
      omega
    omega
  · have hx : 0 ≤ x := sgn_pos h sg
    have hr : 0 ≤ x - t * y := sgn_pos h (by rw [Int.mul_comm]; exact h1)
    have ht : 0 ≤ t * y := by
      apply Classical.byContradiction; intro z
      have ht0 : t < 0 := by
        apply Classical.byContradiction; intro z2
        have := Int.mul_nonneg (show 0 ≤ t by omega) (show 0 ≤ y by omega)
        omega
      have := Int.mul_le_mul_of_nonneg_right (show t ≤ -1 by omega) (show 0 ≤ y by omega)
      omega
    omega
theorem pot_step (A A0 T R R' L : Nat) (h : T * R + R' = L) : (A0 + T * A) * R + A * R' = A * L + A0 * R := by
  subst h
  grind
theorem In.step {f s : Int} {l h : Tr} (I : In f s l h) (nz : h.r ≠ 0) : In f s h (stp l h) ∧ 2 * (h.r.natAbs * (stp l h).r.natAbs) < l.r.natAbs * h.r.natAbs := by
  obtain ⟨h1, h2⟩ := fmod_sg l.r h.r nz
  have au := add_up nz I.sg
  unfold stp
  dsimp only
  generalize l.r.fdiv h.r = t at h1 h2 au ⊢
  have a1 := abs_sub_mul l.a t h.a
  have b1 := abs_sub_mul l.b t h.b
  have p1 := pot_step h.a.natAbs l.a.natAbs t.natAbs h.r.natAbs (l.r - t * h.r).natAbs l.r.natAbs au
  have p2 := pot_step h.b.natAbs l.b.natAbs t.natAbs h.r.natAbs (l.r - t * h.r).natAbs l.r.natAbs au
  have m1 := Nat.mul_le_mul_right h.r.natAbs a1
  have m2 := Nat.mul_le_mul_right h.r.natAbs b1
  have lpos : 1 ≤ l.r.natAbs := by have := I.lt; omega
  have q1 := Nat.mul_le_mul_left h.a.natAbs lpos
  have q2 := Nat.mul_le_mul_left h.b.natAbs lpos
  have fa := I.fa
  have fb := I.fb
  refine ⟨⟨I.eh, ?_, ?_, ?_, ?_, ?_, ?_, h1, h2, by have := I.lt; have := I.lr; omega⟩, ?_⟩
  · have e1 := I.el
    have e2 := I.eh
    dsimp only
    grind
  · rw [gcd_stp]; exact I.g
  · dsimp only; omega
  · dsimp only; omega
  · rw [Nat.mul_one] at q1
    have : 0 ≤ l.a.natAbs * h.r.natAbs := Nat.zero_le _
    omega
  · rw [Nat.mul_one] at q2
    have : 0 ≤ l.b.natAbs * h.r.natAbs := Nat.zero_le _
    omega
  · -- halving
    have tp : 1 ≤ t.natAbs := by
      have hl := I.lt
      apply Classical.byContradiction
      intro z
      have z : t.natAbs = 0 := by omega
      rw [z] at au
      omega
    have t1 := Nat.mul_le_mul_right h.r.natAbs tp
    have hl : 2 * (l.r - t * h.r).natAbs < l.r.natAbs := by omega
    have hp : 0 < h.r.natAbs := by omega
    have := Nat.mul_lt_mul_of_pos_right hl hp
    rw [Nat.mul_comm h.r.natAbs, ← Nat.mul_assoc]
    exact this
theorem In.first (f s : Int) (nz : s ≠ 0) : In f s ⟨0, 1, s⟩ (stp ⟨1, 0, f⟩ ⟨0, 1, s⟩) := by
  obtain ⟨h1, h2⟩ := fmod_sg f s nz
  unfold stp
  dsimp only
  have tb : (f.fdiv s).natAbs * s.natAbs ≤ f.natAbs + s.natAbs := by
    rw [← Int.natAbs_mul]
    omega
  generalize f.fdiv s = t at h1 h2 tb ⊢
  have tl : t.natAbs ≤ f.natAbs + s.natAbs := by
    have : 1 ≤ s.natAbs := by omega
    have := Nat.mul_le_mul_left t.natAbs this
    omega
  refine ⟨by dsimp only; omega, by dsimp only; grind, ?_, ?_, ?_, by dsimp only; omega, by dsimp only; omega, h1, h2, by dsimp only; omega⟩
  · rw [gcd_stp]
  · dsimp only; simp; omega
  · dsimp only
    have e1 : (0 - t * 1).natAbs = t.natAbs := by omega
    rw [e1]
    have : (1 : Int).natAbs = 1 := rfl
    rw [this, Nat.one_mul]
    omega
/-- at the end -/
theorem In.last {f s : Int} {l h : Tr} (I : In f s l h) (z : h.r = 0) : l.r.natAbs = Nat.gcd f.natAbs s.natAbs := by
  have := I.g
  rw [z] at this
  simpa using this
/-! pairs of powers -/
/-- the rest of a canonical answer -/
structure Can (i j p q : Int) : Prop where
  g : Nat.gcd i.natAbs j.natAbs = 1
  n : 0 < i ∨ (i = 0 ∧ 0 < j)
  r0 : 0 < i → 0 ≤ p ∧ p < i
  r1 : i = 0 → 0 ≤ q ∧ q < j
theorem cop_dvd {i j z : Int} (g : Nat.gcd i.natAbs j.natAbs = 1) (h : i ∣ z * j) : i ∣ z := by
  have h1 : i.natAbs ∣ z.natAbs * j.natAbs := by rw [← Int.natAbs_mul]; exact Int.natAbs_dvd_natAbs.mpr h
  exact Int.natAbs_dvd_natAbs.mp (Nat.Coprime.dvd_of_dvd_mul_right g h1)
theorem par_eq {i j i' j' : Int} (g : Nat.gcd i.natAbs j.natAbs = 1) (g' : Nat.gcd i'.natAbs j'.natAbs = 1) (n : 0 < i ∨ (i = 0 ∧ 0 < j)) (n' : 0 < i' ∨ (i' = 0 ∧ 0 < j')) (h : i * j' = i' * j) : i = i' ∧ j = j' := by
  have d1 : i ∣ i' := cop_dvd g ⟨j', h.symm⟩
  have d2 : i' ∣ i := cop_dvd g' ⟨j, h⟩
  have e : i = i' := by
    rcases n with n | ⟨n, m⟩
    · rcases n' with n' | ⟨n', m'⟩
      · exact Int.dvd_antisymm (by omega) (by omega) d1 d2
      · rw [n'] at d2
        have := Int.zero_dvd.mp d2
        omega
    · rw [n] at d1
      have := Int.zero_dvd.mp d1
      omega
  refine ⟨e, ?_⟩
  subst e
  rcases n with n | ⟨n, m⟩
  · have := Int.eq_of_mul_eq_mul_left (by omega) h
    exact this.symm
  · rcases n' with n' | ⟨n', m'⟩
    · omega
    · subst n
      have a1 : j.natAbs = 1 := by simpa using g
      have a2 : j'.natAbs = 1 := by simpa using g'
      omega
theorem in_range {i a b : Int} (h : 0 < i) (d : i ∣ a - b) (ha : 0 ≤ a ∧ a < i) (hb : 0 ≤ b ∧ b < i) : a = b := by
  obtain ⟨c, hc⟩ := d
  have : c = 0 := by
    rcases Int.lt_trichotomy c 0 with z | z | z
    · have := Int.mul_le_mul_of_nonneg_left (show c ≤ -1 by omega) (show 0 ≤ i by omega)
      omega
    · exact z
    · have := Int.mul_le_mul_of_nonneg_left (show 1 ≤ c by omega) (show 0 ≤ i by omega)
      omega
  subst this
  omega
/-- two answers to one question, in the one form -/
theorem can_eq {f s w i j p q i' j' p' q' : Int} (nz : f ≠ 0 ∨ s ≠ 0) (h1 : i * f + j * s = 0) (h1' : i' * f + j' * s = 0) (h2 : p * f + q * s = w) (h2' : p' * f + q' * s = w) (c : Can i j p q) (c' : Can i' j' p' q') : i = i' ∧ j = j' ∧ p = p' ∧ q = q' := by
  have e : i * j' = i' * j := by
    rcases nz with z | z
    · have : f * (i * j') = f * (i' * j) := by grind
      exact Int.eq_of_mul_eq_mul_left z this
    · have : s * (i * j') = s * (i' * j) := by grind
      exact Int.eq_of_mul_eq_mul_left z this
  obtain ⟨ei, ej⟩ := par_eq c.g c'.g c.n c'.n e
  subst ei ej
  have k : (p - p') * j = (q - q') * i := by
    rcases nz with z | z
    · have : f * ((p - p') * j) = f * ((q - q') * i) := by grind
      exact Int.eq_of_mul_eq_mul_left z this
    · have : s * ((p - p') * j) = s * ((q - q') * i) := by grind
      exact Int.eq_of_mul_eq_mul_left z this
  refine ⟨rfl, rfl, ?_⟩
  rcases c.n with n | ⟨n, m⟩
  · have d : i ∣ p - p' := cop_dvd c.g ⟨q - q', by rw [k, Int.mul_comm]⟩
    have ep := in_range n d (c.r0 n) (c'.r0 n)
    subst ep
    refine ⟨rfl, ?_⟩
    have : (q - q') * i = 0 := by rw [← k]; simp
    rcases Int.mul_eq_zero.mp this with z | z <;> omega
  · subst n
    have aj : j = 1 := by have := c.g; simp at this; omega
    have r := c.r1 rfl
    have r' := c'.r1 rfl
    subst aj
    refine ⟨?_, by omega⟩
    omega
/-- at any time -/
def WI (f s : Int) (l h : Tr) : Prop := (l = ⟨1, 0, f⟩ ∧ h = ⟨0, 1, s⟩) ∨ In f s l h
theorem WI.step {f s : Int} {l h : Tr} (I : WI f s l h) (nz : h.r ≠ 0) : In f s h (stp l h) := by
  rcases I with ⟨rfl, rfl⟩ | I
  · exact In.first f s nz
  · exact (I.step nz).1
theorem In.ha {f s : Int} {l h : Tr} (I : In f s l h) : h.a.natAbs ≤ f.natAbs + 2 * s.natAbs ∧ h.b.natAbs ≤ f.natAbs + 2 * s.natAbs := by
  have lpos : 1 ≤ l.r.natAbs := by have := I.lt; omega
  have q1 := Nat.mul_le_mul_left h.a.natAbs lpos
  have q2 := Nat.mul_le_mul_left h.b.natAbs lpos
  have fa := I.fa
  have fb := I.fb
  rw [Nat.mul_one] at q1 q2
  omega
theorem WI.bd {f s : Int} {l h : Tr} (I : WI f s l h) : l.a.natAbs ≤ f.natAbs + 2 * s.natAbs + 1 ∧ l.b.natAbs ≤ f.natAbs + 2 * s.natAbs + 1 ∧ l.r.natAbs ≤ f.natAbs + s.natAbs ∧ h.a.natAbs ≤ f.natAbs + 2 * s.natAbs + 1 ∧ h.b.natAbs ≤ f.natAbs + 2 * s.natAbs + 1 ∧ h.r.natAbs ≤ f.natAbs + s.natAbs := by
  rcases I with ⟨rfl, rfl⟩ | I
  · dsimp only
    refine ⟨?_, ?_, ?_, ?_, ?_, ?_⟩ <;> omega
  · obtain ⟨h1, h2⟩ := I.ha
    have := I.la
    have := I.lb
    have := I.lr
    have := I.lt
    refine ⟨?_, ?_, ?_, ?_, ?_, ?_⟩ <;> omega
theorem WI.out {f s : Int} {l h : Tr} (I : WI f s l h) (z : h.r = 0) : (l.r < 0 → -l.a * f + -l.b * s = (Nat.gcd f.natAbs s.natAbs : Int)) ∧ (¬ l.r < 0 → l.a * f + l.b * s = (Nat.gcd f.natAbs s.natAbs : Int)) := by
  rcases I with ⟨rfl, rfl⟩ | I
  · dsimp only at z ⊢
    subst z
    simp
    omega
  · have e := I.el
    have g := I.last z
    constructor
    · intro n
      have : -l.a * f + -l.b * s = -(l.a * f + l.b * s) := by grind
      omega
    · intro n
      omega
/-- a loop of so many rounds -/
def MI (i : Nat) (f s : Int) (l h : Tr) : Prop := (i = 0 ∧ l = ⟨1, 0, f⟩ ∧ h = ⟨0, 1, s⟩) ∨ (0 < i ∧ In f s l h ∧ 2 ^ (i - 1) * (l.r.natAbs * h.r.natAbs) < 2 ^ 2003)
theorem MI.wi {i : Nat} {f s : Int} {l h : Tr} (I : MI i f s l h) : WI f s l h := by
  rcases I with ⟨_, e⟩ | ⟨_, I, _⟩
  · exact .inl e
  · exact .inr I
theorem MI.step {i : Nat} {f s : Int} {l h : Tr} (I : MI i f s l h) (hs : s.natAbs < 2 ^ 1000) (nz : h.r ≠ 0) : MI (i + 1) f s h (stp l h) := by
  refine .inr ⟨Nat.succ_pos _, I.wi.step nz, ?_⟩
  rw [Nat.add_sub_cancel]
  rcases I with ⟨rfl, rfl, rfl⟩ | ⟨hi, I, hp⟩
  · have h2 := (In.first f s nz).lt
    dsimp only at h2 ⊢
    rw [Nat.pow_zero, Nat.one_mul]
    have := Nat.mul_lt_mul_of_lt_of_lt hs (Nat.lt_trans h2 hs)
    have e : (2 : Nat) ^ 1000 * 2 ^ 1000 < 2 ^ 2003 := by rw [← Nat.pow_add]; exact Nat.pow_lt_pow_right (by decide) (by decide)
    exact Nat.lt_trans this e
  · have h2 := (I.step nz).2
    obtain ⟨j, rfl⟩ : ∃ j, i = j + 1 := ⟨i - 1, by omega⟩
    rw [Nat.add_sub_cancel] at hp
    have h3 := Nat.mul_le_mul_left (2 ^ j) (Nat.le_of_lt h2)
    rw [Nat.pow_succ, Nat.mul_assoc]
    exact Nat.lt_of_le_of_lt h3 hp
theorem MI.out {f s : Int} {l h : Tr} (I : MI 3000 f s l h) : h.r = 0 := by
  rcases I with ⟨z, _⟩ | ⟨_, I, hp⟩
  · omega
  · apply Classical.byContradiction
    intro z
    have h1 : 1 ≤ l.r.natAbs * h.r.natAbs := Nat.mul_pos (by have := I.lt; omega) (by omega)
    have h2 := Nat.mul_le_mul_left (2 ^ (3000 - 1)) h1
    rw [Nat.mul_one] at h2
    have e : (2 : Nat) ^ 2003 < 2 ^ (3000 - 1) := Nat.pow_lt_pow_right (by decide) (by decide)
    omega
/-- the same for the divisor alone -/
def GI (i : Nat) (x y : Nat) : Prop := x < 2 ^ 1000 ∧ y < 2 ^ 1000 ∧ (i = 0 ∨ (0 < i ∧ y < x ∧ 2 ^ (i - 1) * (x * y) < 2 ^ 2003))
theorem GI.step {i x y : Nat} (I : GI i x y) (nz : y ≠ 0) : GI (i + 1) y (x % y) := by
  obtain ⟨hx, hy, hp⟩ := I
  have hm : x % y < y := Nat.mod_lt _ (by omega)
  refine ⟨hy, by omega, .inr ⟨Nat.succ_pos _, hm, ?_⟩⟩
  rw [Nat.add_sub_cancel]
  rcases hp with rfl | ⟨hi, hl, hp⟩
  · rw [Nat.pow_zero, Nat.one_mul]
    have := Nat.mul_lt_mul_of_lt_of_lt hy (Nat.lt_trans hm hy)
    have e : (2 : Nat) ^ 1000 * 2 ^ 1000 < 2 ^ 2003 := by rw [← Nat.pow_add]; exact Nat.pow_lt_pow_right (by decide) (by decide)
    exact Nat.lt_trans this e
  · obtain ⟨j, rfl⟩ : ∃ j, i = j + 1 := ⟨i - 1, by omega⟩
    rw [Nat.add_sub_cancel] at hp
    have h2 : 2 * (x % y) ≤ x := by
      have e := Nat.div_add_mod x y
      have q : 1 ≤ x / y := Nat.div_pos (by omega) (by omega)
      have := Nat.mul_le_mul_left y q
      omega
    have h3 : 2 * (y * (x % y)) ≤ x * y := by
      have := Nat.mul_le_mul_left y h2
      rw [Nat.mul_comm x y]
      have e : y * (2 * (x % y)) = 2 * (y * (x % y)) := by grind
      omega
    have h4 := Nat.mul_le_mul_left (2 ^ j) h3
    rw [Nat.pow_succ, Nat.mul_assoc]
    exact Nat.lt_of_le_of_lt h4 hp
theorem GI.out {x y : Nat} (I : GI 3000 x y) : y = 0 := by
  obtain ⟨_, _, z | ⟨_, hl, hp⟩⟩ := I
  · omega
  · apply Classical.byContradiction
    intro z
    have h1 : 1 ≤ x * y := Nat.mul_pos (by omega) (by omega)
    have h2 := Nat.mul_le_mul_left (2 ^ (3000 - 1)) h1
    rw [Nat.mul_one] at h2
    have e : (2 : Nat) ^ 2003 < 2 ^ (3000 - 1) := Nat.pow_lt_pow_right (by decide) (by decide)
    omega
end Bz

set_option linter.all false
set_option maxHeartbeats 2000000
set_option exponentiation.threshold 5000
/-! The nearest viewpoint on a line; Euclid's strides with their areas. -/
namespace Nv
open Bz
def rk (p q : Int) : List Int := [(p.natAbs : Int) + (q.natAbs : Int), p, q]
theorem lex3 (a b c a' b' c' : Int) : HT.lexLt [a, b, c] [a', b', c'] = decide (a < a' ∨ (a = a' ∧ (b < b' ∨ (b = b' ∧ c < c')))) := by
  rw [HT.lexLt_cons, HT.lexLt_cons, HT.lexLt_cons]
  by_cases h1 : a = a'
  · subst h1
    by_cases h2 : b = b'
    · subst h2
      by_cases h3 : c = c'
      · subst h3
        simp [HT.lexLt]
      · simp [h3]
    · simp [h2]
  · simp [h1]
theorem rk_lt (p q p' q' : Int) : (HT.lexLt (rk p q) (rk p' q') = true) ↔ ((p.natAbs : Int) + (q.natAbs : Int) < (p'.natAbs : Int) + (q'.natAbs : Int) ∨ ((p.natAbs : Int) + (q.natAbs : Int) = (p'.natAbs : Int) + (q'.natAbs : Int) ∧ (p < p' ∨ (p = p' ∧ q < q')))) := by
  unfold rk
  rw [lex3]
  exact decide_eq_true_iff
theorem rk_nl (p q p' q' : Int) : (HT.lexLt (rk p q) (rk p' q') = false) ↔ ¬ ((p.natAbs : Int) + (q.natAbs : Int) < (p'.natAbs : Int) + (q'.natAbs : Int) ∨ ((p.natAbs : Int) + (q.natAbs : Int) = (p'.natAbs : Int) + (q'.natAbs : Int) ∧ (p < p' ∨ (p = p' ∧ q < q')))) := by
  unfold rk
  rw [lex3]
  exact decide_eq_false_iff_not
/-- a step up in both -/
theorem near_up {p q i j : Int} (nz : i ≠ 0 ∨ j ≠ 0) (hi : ((p + i).natAbs : Int) = p.natAbs + i.natAbs) (hj : ((q + j).natAbs : Int) = q.natAbs + j.natAbs) : HT.lexLt (rk p q) (rk (p + i) (q + j)) = true := by
  rw [rk_lt]
  left
  omega
theorem sgn_mul {K d : Int} (hK : 0 < K) : (K * d < 0 ↔ d < 0) ∧ (K * d = 0 ↔ d = 0) := by
  constructor
  · constructor
    · intro h
      apply Classical.byContradiction
      intro z
      have := Int.mul_nonneg (show 0 ≤ K by omega) (show 0 ≤ d by omega)
      omega
    · intro h
      exact Int.mul_neg_of_pos_of_neg hK h
  · constructor
    · intro h
      rcases Int.mul_eq_zero.mp h with z | z
      · omega
      · exact z
    · intro h
      rw [h, Int.mul_zero]
/-- a candidate further on is not nearer: so the first step there is no nearer -/
theorem near_far {p q i j K P Q : Int} (nz : i ≠ 0 ∨ j ≠ 0) (hK : 0 < K) (d : Int) (h1 : ((p + i).natAbs : Int) + ((q + j).natAbs : Int) = p.natAbs + q.natAbs + d) (eP : P = p + K * i) (eQ : Q = q + K * j) (h2 : (P.natAbs : Int) + (Q.natAbs : Int) = p.natAbs + q.natAbs + K * d) (nl : HT.lexLt (rk P Q) (rk p q) = false) : HT.lexLt (rk p q) (rk (p + i) (q + j)) = true := by
  rw [rk_lt]
  rw [rk_nl] at nl
  obtain ⟨a1, a2⟩ := sgn_mul (d := d) hK
  obtain ⟨b1, b2⟩ := sgn_mul (d := i) hK
  obtain ⟨c1, c2⟩ := sgn_mul (d := j) hK
  generalize K * d = kd at *
  generalize K * i = ki at *
  generalize K * j = kj at *
  omega
/-- |a + t u| right and left of its foot -/
theorem foot {a u : Int} (hu : u ≠ 0) (t k : Int) (hk : 0 ≤ k) : ((-a).fdiv u + 1 ≤ t → ((a + (t + k) * u).natAbs : Int) = (a + t * u).natAbs + k * u.natAbs) ∧ (t + k ≤ (-a).fdiv u → ((a + (t + k) * u).natAbs : Int) = (a + t * u).natAbs - k * u.natAbs) ∧ (t ≤ (-a).fdiv u → ((a + (t - k) * u).natAbs : Int) = (a + t * u).natAbs + k * u.natAbs) ∧ ((-a).fdiv u + 1 ≤ t - k → ((a + (t - k) * u).natAbs : Int) = (a + t * u).natAbs - k * u.natAbs) := by
  obtain ⟨h1, h2⟩ := Bz.fmod_sg (-a) u hu
  generalize (-a).fdiv u = F at h1 h2 ⊢
  rcases Int.lt_or_gt_of_ne hu with h | h
  · have g1 : -a - F * u ≤ 0 := Bz.sgn_neg h (by rw [Int.mul_comm]; exact h1)
    have g2 : u < -a - F * u := by omega
    have ku : k * u ≤ 0 := by
      have := Int.mul_nonneg hk (show 0 ≤ -u by omega)
      rw [Int.mul_neg] at this
      omega
    have eu : (u.natAbs : Int) = -u := by omega
    have mono : ∀ x y : Int, x ≤ y → y * u ≤ x * u := fun x y h => Int.mul_le_mul_of_nonpos_right h (by omega)
    refine ⟨fun ht => ?_, fun ht => ?_, fun ht => ?_, fun ht => ?_⟩
    · have m1 := mono _ _ ht
      have e1 : (F + 1) * u = F * u + u := by rw [Int.add_mul, Int.one_mul]
      have e2 : (t + k) * u = t * u + k * u := Int.add_mul _ _ _
      rw [eu, Int.mul_neg]
      omega
    · have m1 := mono _ _ ht
      have m2 := mono _ _ (show t ≤ t + k by omega)
      have e2 : (t + k) * u = t * u + k * u := Int.add_mul _ _ _
      rw [eu, Int.mul_neg]
      omega
    · have m1 := mono _ _ ht
      have e2 : (t - k) * u = t * u - k * u := Int.sub_mul _ _ _
      rw [eu, Int.mul_neg]
      omega
    · have m1 := mono _ _ ht
      have e1 : (F + 1) * u = F * u + u := by rw [Int.add_mul, Int.one_mul]
      have e2 : (t - k) * u = t * u - k * u := Int.sub_mul _ _ _
      rw [eu, Int.mul_neg]
      omega
  · have g1 : 0 ≤ -a - F * u := Bz.sgn_pos h (by rw [Int.mul_comm]; exact h1)
    have g2 : -a - F * u < u := by omega
    have ku : 0 ≤ k * u := Int.mul_nonneg hk (by omega)
    have eu : (u.natAbs : Int) = u := by omega
    have mono : ∀ x y : Int, x ≤ y → x * u ≤ y * u := fun x y h => Int.mul_le_mul_of_nonneg_right h (by omega)
    refine ⟨fun ht => ?_, fun ht => ?_, fun ht => ?_, fun ht => ?_⟩
    · have m1 := mono _ _ ht
      have e1 : (F + 1) * u = F * u + u := by rw [Int.add_mul, Int.one_mul]
      have e2 : (t + k) * u = t * u + k * u := Int.add_mul _ _ _
      rw [eu]
      omega
    · have m1 := mono _ _ ht
      have e2 : (t + k) * u = t * u + k * u := Int.add_mul _ _ _
      rw [eu]
      omega
    · have m1 := mono _ _ ht
      have e2 : (t - k) * u = t * u - k * u := Int.sub_mul _ _ _
      rw [eu]
      omega
    · have m1 := mono _ _ ht
      have e1 : (F + 1) * u = F * u + u := by rw [Int.add_mul, Int.one_mul]
      have e2 : (t - k) * u = t * u - k * u := Int.sub_mul _ _ _
      rw [eu]
      omega
/-- the feet -/
def cand (a u : Int) : List Int := if u = 0 then [] else [(-a).fdiv u, (-a).fdiv u + 1]
theorem lex_tot {p q p' q' : Int} (h : HT.lexLt (rk p' q') (rk p q) = false) (ne : p ≠ p' ∨ q ≠ q') : HT.lexLt (rk p q) (rk p' q') = true := by
  rw [rk_lt]
  rw [rk_nl] at h
  omega
/-- one neighbour, eps = 1 or -1 -/
theorem side {a b i j t ε : Int} (hε : ε = 1 ∨ ε = -1) (nz : i ≠ 0 ∨ j ≠ 0) (ht : t ∈ cand a i ++ cand b j) (hm : ∀ s ∈ cand a i ++ cand b j, HT.lexLt (rk (a + s * i) (b + s * j)) (rk (a + t * i) (b + t * j)) = false) : HT.lexLt (rk (a + t * i) (b + t * j)) (rk (a + t * i + ε * i) (b + t * j + ε * j)) = true := by
  have nz2 : ε * i ≠ 0 ∨ ε * j ≠ 0 := by rcases hε with rfl | rfl <;> omega
  have ab : (ε * i).natAbs = i.natAbs ∧ (ε * j).natAbs = j.natAbs := by rcases hε with rfl | rfl <;> omega
  by_cases hc : t + ε ∈ cand a i ++ cand b j
  · have h := hm _ hc
    have e1 : a + (t + ε) * i = a + t * i + ε * i := by rw [Int.add_mul]; omega
    have e2 : b + (t + ε) * j = b + t * j + ε * j := by rw [Int.add_mul]; omega
    rw [e1, e2] at h
    exact lex_tot h (by omega)
  · have memi : ∀ s, s ∈ cand a i ↔ (i ≠ 0 ∧ (s = (-a).fdiv i ∨ s = (-a).fdiv i + 1)) := fun s => by
      unfold cand
      split
      · rename_i z; simp [z]
      · rename_i z; simp [z]
    have memj : ∀ s, s ∈ cand b j ↔ (j ≠ 0 ∧ (s = (-b).fdiv j ∨ s = (-b).fdiv j + 1)) := fun s => by
      unfold cand
      split
      · rename_i z; simp [z]
      · rename_i z; simp [z]
    rw [List.mem_append, memi, memj] at ht hc
    have hm2 : ∀ s, (i ≠ 0 ∧ (s = (-a).fdiv i ∨ s = (-a).fdiv i + 1)) ∨ (j ≠ 0 ∧ (s = (-b).fdiv j ∨ s = (-b).fdiv j + 1)) → HT.lexLt (rk (a + s * i) (b + s * j)) (rk (a + t * i) (b + t * j)) = false := fun s hs => hm s (by rw [List.mem_append, memi, memj]; exact hs)
    -- each coordinate goes up for ever, or down to a candidate
    have one : ∀ {c u : Int}, (¬ (u ≠ 0 ∧ (t + ε = (-c).fdiv u ∨ t + ε = (-c).fdiv u + 1))) → (∀ k : Int, 0 ≤ k → ((c + t * u + k * (ε * u)).natAbs : Int) = (c + t * u).natAbs + k * u.natAbs) ∨ (u ≠ 0 ∧ ¬ (t = (-c).fdiv u ∨ t = (-c).fdiv u + 1) ∧ ∃ K : Int, 0 < K ∧ (t + ε * K = (-c).fdiv u ∨ t + ε * K = (-c).fdiv u + 1) ∧ ∀ k : Int, 0 ≤ k → k ≤ K → ((c + t * u + k * (ε * u)).natAbs : Int) = (c + t * u).natAbs - k * u.natAbs) := by
      intro c u hn
      by_cases hu : u = 0
      · subst hu
        left
        intro k hk
        simp
      · rcases hε with rfl | rfl
        · by_cases h : (-c).fdiv u + 1 ≤ t
          · left
            intro k hk
            have := (foot (a := c) hu t k hk).1 h
            have e : c + t * u + k * (1 * u) = c + (t + k) * u := by grind
            rw [e]; exact this
          · right
            refine ⟨hu, by omega, (-c).fdiv u - t, by omega, by omega, fun k hk hK => ?_⟩
            have := (foot (a := c) hu t k hk).2.1 (by omega)
            have e : c + t * u + k * (1 * u) = c + (t + k) * u := by grind
            rw [e]; exact this
        · by_cases h : t ≤ (-c).fdiv u
          · left
            intro k hk
            have := (foot (a := c) hu t k hk).2.2.1 h
            have e : c + t * u + k * (-1 * u) = c + (t - k) * u := by grind
            rw [e]; exact this
          · right
            refine ⟨hu, by omega, t - ((-c).fdiv u + 1), by omega, by omega, fun k hk hK => ?_⟩
            have := (foot (a := c) hu t k hk).2.2.2 (by omega)
            have e : c + t * u + k * (-1 * u) = c + (t - k) * u := by grind
            rw [e]; exact this
    have oi := one (c := a) (u := i) (fun z => hc (.inl z))
    have oj := one (c := b) (u := j) (fun z => hc (.inr z))
    rcases oi with ui | ⟨hi, ni, K, hK, cK, di⟩
    · rcases oj with uj | ⟨hj, nj, K, hK, cK, dj⟩
      · have a1 := ui 1 (by decide)
        have b1 := uj 1 (by decide)
        rw [Int.one_mul, Int.one_mul] at a1 b1
        exact near_up nz2 (by rw [a1, ab.1]) (by rw [b1, ab.2])
      · have a1 := ui 1 (by decide)
        have b1 := dj 1 (by decide) (by omega)
        have aK := ui K (by omega)
        have bK := dj K (by omega) (Int.le_refl _)
        rw [Int.one_mul, Int.one_mul] at a1 b1
        refine near_far (K := K) (P := a + (t + ε * K) * i) (Q := b + (t + ε * K) * j) nz2 hK (i.natAbs - j.natAbs) (by omega) (by grind) (by grind) ?_ (hm2 _ (.inr ⟨hj, cK⟩))
        rw [show a + (t + ε * K) * i = a + t * i + K * (ε * i) by grind, show b + (t + ε * K) * j = b + t * j + K * (ε * j) by grind, aK, bK, Int.mul_sub]
        omega
    · rcases oj with uj | ⟨hj, nj, _⟩
      · have a1 := di 1 (by decide) (by omega)
        have b1 := uj 1 (by decide)
        have aK := di K (by omega) (Int.le_refl _)
        have bK := uj K (by omega)
        rw [Int.one_mul, Int.one_mul] at a1 b1
        refine near_far (K := K) (P := a + (t + ε * K) * i) (Q := b + (t + ε * K) * j) nz2 hK (j.natAbs - i.natAbs) (by omega) (by grind) (by grind) ?_ (hm2 _ (.inl ⟨hi, cK⟩))
        rw [show a + (t + ε * K) * i = a + t * i + K * (ε * i) by grind, show b + (t + ε * K) * j = b + t * j + K * (ε * j) by grind, aK, bK, Int.mul_sub]
        omega
      · exfalso
        rcases ht with ⟨_, z⟩ | ⟨_, z⟩
        · exact ni z
        · exact nj z
/-- primitive vectors that are parallel -/
theorem par_pm {i j u v : Int} (g : Nat.gcd i.natAbs j.natAbs = 1) (g' : Nat.gcd u.natAbs v.natAbs = 1) (h : i * v = j * u) : (u = i ∧ v = j) ∨ (u = -i ∧ v = -j) := by
  have d1 : i ∣ u := cop_dvd (z := u) g ⟨v, by rw [Int.mul_comm u j]; exact h.symm⟩
  have d2 : u ∣ i := cop_dvd (z := i) g' ⟨j, by rw [h, Int.mul_comm]⟩
  have e : u.natAbs = i.natAbs := Nat.dvd_antisymm (Int.natAbs_dvd_natAbs.mpr d2) (Int.natAbs_dvd_natAbs.mpr d1)
  by_cases hi : i = 0
  · have hu : u = 0 := by omega
    subst hi hu
    have a1 : j.natAbs = 1 := by simpa using g
    have a2 : v.natAbs = 1 := by simpa using g'
    omega
  · have : u = i ∨ u = -i := by omega
    rcases this with rfl | rfl
    · left
      refine ⟨rfl, Int.eq_of_mul_eq_mul_left hi (by rw [h, Int.mul_comm])⟩
    · right
      refine ⟨rfl, Int.eq_of_mul_eq_mul_left hi (by rw [h]; grind)⟩
/-! strides with their areas -/
/-- the area of high * low^-t -/
def nar (l h : Tr) (Al Ah : Int) : Int := Al + (-(l.r.fdiv h.r) * Ah + h.a * h.b * (-(l.r.fdiv h.r) * (-(l.r.fdiv h.r) - 1)).fdiv 2) + l.a * (-(l.r.fdiv h.r) * h.b)
def EI (f s : Int) (l h : Tr) (Al Ah : Int) : Prop := (l.a * h.b - l.b * h.a = 1 ∨ l.a * h.b - l.b * h.a = -1) ∧
  ((l = ⟨1, 0, f⟩ ∧ h = ⟨0, 1, s⟩ ∧ Al = 0 ∧ Ah = 0) ∨ (In f s l h ∧ Ah.natAbs * l.r.natAbs + Al.natAbs * h.r.natAbs ≤ (f.natAbs + s.natAbs - h.r.natAbs) * 2 ^ 2500 ∧ Al.natAbs ≤ 2 ^ 3000 ∧ Ah.natAbs ≤ 2 ^ 3000))
theorem EI.wi {f s : Int} {l h : Tr} {Al Ah : Int} (I : EI f s l h Al Ah) : WI f s l h := by
  rcases I.2 with ⟨a, b, _⟩ | ⟨I, _⟩
  · exact .inl ⟨a, b⟩
  · exact .inr I
theorem half_abs (n : Int) : ((n * (n - 1)).fdiv 2).natAbs ≤ n.natAbs * (n.natAbs + 1) := by
  have h1 : (n * (n - 1)).natAbs ≤ n.natAbs * (n.natAbs + 1) := by
    rw [Int.natAbs_mul]
    exact Nat.mul_le_mul_left _ (by omega)
  have := Int.mul_fdiv_add_fmod (n * (n - 1)) 2
  have := Int.fmod_nonneg_of_pos (n * (n - 1)) (show (0 : Int) < 2 by decide)
  have := Int.fmod_lt_of_pos (n * (n - 1)) (show (0 : Int) < 2 by decide)
  have nn : 0 ≤ n * (n - 1) := by
    rcases Int.lt_or_le 0 n with z | z
    · exact Int.mul_nonneg (by omega) (by omega)
    · have := Int.mul_nonneg (show 0 ≤ -n by omega) (show 0 ≤ -(n - 1) by omega)
      rw [Int.neg_mul_neg] at this
      exact this
  omega
theorem nar_bd {l h : Tr} {Al Ah : Int} {M : Nat} (h1 : l.a.natAbs ≤ M) (h2 : h.a.natAbs ≤ M) (h3 : h.b.natAbs ≤ M) (h4 : (l.r.fdiv h.r).natAbs ≤ M) : (nar l h Al Ah).natAbs ≤ Al.natAbs + (l.r.fdiv h.r).natAbs * Ah.natAbs + (M * M * (M * (M + 1)) + M * (M * M)) := by
  unfold nar
  generalize l.r.fdiv h.r = t at h4 ⊢
  have a1 : (-t * Ah).natAbs = t.natAbs * Ah.natAbs := by rw [Int.natAbs_mul, Int.natAbs_neg]
  have a2 : (h.a * h.b * (-t * (-t - 1)).fdiv 2).natAbs ≤ M * M * (M * (M + 1)) := by
    rw [Int.natAbs_mul, Int.natAbs_mul]
    have := half_abs (-t)
    rw [Int.natAbs_neg] at this
    exact Nat.mul_le_mul (Nat.mul_le_mul h2 h3) (Nat.le_trans this (Nat.mul_le_mul h4 (by omega)))
  have a3 : (l.a * (-t * h.b)).natAbs ≤ M * (M * M) := by
    rw [Int.natAbs_mul, Int.natAbs_mul, Int.natAbs_neg]
    exact Nat.mul_le_mul h1 (Nat.mul_le_mul h4 h3)
  omega
theorem EI.first (f s : Int) : EI f s ⟨1, 0, f⟩ ⟨0, 1, s⟩ 0 0 := ⟨.inl (show (1 : Int) * 1 - 0 * 0 = 1 by decide), .inl ⟨rfl, rfl, rfl, rfl⟩⟩
theorem pow_big {M : Nat} (h : M < 2 ^ 403) : (M * M * (M * (M + 1)) + M * (M * M)) * M < 2 ^ 2500 := by
  have h1 : M ≤ 2 ^ 403 := Nat.le_of_lt h
  have h2 : M + 1 ≤ 2 ^ 403 := h
  have h3 : M * M ≤ 2 ^ 403 * 2 ^ 403 := Nat.mul_le_mul h1 h1
  have h4 : M * (M + 1) ≤ 2 ^ 403 * 2 ^ 403 := Nat.mul_le_mul h1 h2
  have h5 : M * M * (M * (M + 1)) ≤ 2 ^ 403 * 2 ^ 403 * (2 ^ 403 * 2 ^ 403) := Nat.mul_le_mul h3 h4
  have h6 : M * (M * M) ≤ 2 ^ 403 * (2 ^ 403 * 2 ^ 403) := Nat.mul_le_mul h1 h3
  have h7 := Nat.mul_le_mul (Nat.add_le_add h5 h6) h1
  refine Nat.lt_of_le_of_lt h7 (by decide +kernel)
theorem EI.step {f s : Int} {l h : Tr} {Al Ah : Int} (I : EI f s l h Al Ah) (nz : h.r ≠ 0) (hf : f.natAbs < 2 ^ 400) (hs : s.natAbs < 2 ^ 400) : EI f s h (stp l h) Ah (nar l h Al Ah) := by
  have W := I.wi
  have I2 := W.step nz
  have bd := W.bd
  obtain ⟨hM, eM⟩ : ∃ M : Nat, M = 2 * f.natAbs + 2 * s.natAbs + 4 := ⟨_, rfl⟩
  have hMb : hM < 2 ^ 403 := by
    rw [eM, show (403 : Nat) = 400 + 3 from rfl, Nat.pow_add]
    omega
  have ht : (l.r.fdiv h.r).natAbs ≤ hM := by
    have h1 := (fmod_sg l.r h.r nz).2
    have h2 : 1 ≤ h.r.natAbs := by omega
    have h3 := Nat.mul_le_mul_left (l.r.fdiv h.r).natAbs h2
    have h4 : (l.r.fdiv h.r).natAbs * h.r.natAbs = (l.r.fdiv h.r * h.r).natAbs := (Int.natAbs_mul _ _).symm
    omega
  have nb := nar_bd (l := l) (h := h) (Al := Al) (Ah := Ah) (M := hM) (by omega) (by omega) (by omega) ht
  have pb := pow_big hMb
  generalize hX : hM * hM * (hM * (hM + 1)) + hM * (hM * hM) = X at nb pb
  have lt := I2.lt
  have pot : (nar l h Al Ah).natAbs * h.r.natAbs + Ah.natAbs * (stp l h).r.natAbs ≤ (f.natAbs + s.natAbs - (stp l h).r.natAbs) * 2 ^ 2500 := by
    have xr : X * h.r.natAbs < 2 ^ 2500 := Nat.lt_of_le_of_lt (Nat.mul_le_mul_left X (show h.r.natAbs ≤ hM by omega)) pb
    have hR : h.r.natAbs ≤ f.natAbs + s.natAbs := bd.2.2.2.2.2
    have n1 := Nat.mul_le_mul_right h.r.natAbs nb
    have cnt : (f.natAbs + s.natAbs - h.r.natAbs) + 1 ≤ f.natAbs + s.natAbs - (stp l h).r.natAbs := by omega
    have c2 := Nat.mul_le_mul_right (2 ^ 2500) cnt
    rw [Nat.add_mul, Nat.one_mul] at c2
    rcases I.2 with ⟨e1, e2, e3, e4⟩ | ⟨I1, p, _, _⟩
    · rw [e3, e4] at n1
      rw [e4]
      have z : (0 : Int).natAbs = 0 := rfl
      rw [z, Nat.mul_zero, Nat.add_zero, Nat.zero_add] at n1
      rw [e3, z, Nat.zero_mul, Nat.add_zero]
      omega
    · have au := add_up nz I1.sg
      have er : (stp l h).r = l.r - l.r.fdiv h.r * h.r := rfl
      rw [← er] at au
      have ps := pot_step Ah.natAbs Al.natAbs (l.r.fdiv h.r).natAbs h.r.natAbs (stp l h).r.natAbs l.r.natAbs au
      have ex : (Al.natAbs + (l.r.fdiv h.r).natAbs * Ah.natAbs + X) * h.r.natAbs = (Al.natAbs + (l.r.fdiv h.r).natAbs * Ah.natAbs) * h.r.natAbs + X * h.r.natAbs := Nat.add_mul _ _ _
      omega
  refine ⟨?_, .inr ⟨I2, ?_, ?_, ?_⟩⟩
  · have e : h.a * (stp l h).b - h.b * (stp l h).a = -(l.a * h.b - l.b * h.a) := by
      unfold stp
      dsimp only
      grind
    rw [e]
    have := I.1
    omega
  · exact pot
  · rcases I.2 with ⟨_, _, _, e4⟩ | ⟨_, _, _, b⟩
    · rw [e4]; exact Nat.zero_le _
    · exact b
  · have h2 : 1 ≤ h.r.natAbs := by omega
    have h3 := Nat.mul_le_mul_left (nar l h Al Ah).natAbs h2
    have h4 : f.natAbs + s.natAbs - (stp l h).r.natAbs ≤ 2 ^ 401 := by
      rw [show (401 : Nat) = 400 + 1 from rfl, Nat.pow_add]
      omega
    have h5 := Nat.mul_le_mul_right (2 ^ 2500) h4
    have h6 : (2 : Nat) ^ 401 * 2 ^ 2500 ≤ 2 ^ 3000 := by rw [← Nat.pow_add]; exact Nat.pow_le_pow_right (by decide) (by decide)
    rw [Nat.mul_one] at h3
    have h7 := Nat.le_trans (Nat.le_trans (Nat.le_trans h3 (Nat.le_add_right _ _)) pot) (Nat.le_trans h5 h6)
    exact h7
theorem EI.cop {f s : Int} {l h : Tr} {Al Ah : Int} (I : EI f s l h Al Ah) : Nat.gcd h.a.natAbs h.b.natAbs = 1 := by
  have d1 : ((Nat.gcd h.a.natAbs h.b.natAbs : Nat) : Int) ∣ h.a := Int.ofNat_dvd_left.mpr (Nat.gcd_dvd_left _ _)
  have d2 : ((Nat.gcd h.a.natAbs h.b.natAbs : Nat) : Int) ∣ h.b := Int.ofNat_dvd_left.mpr (Nat.gcd_dvd_right _ _)
  have d3 : ((Nat.gcd h.a.natAbs h.b.natAbs : Nat) : Int) ∣ l.a * h.b - l.b * h.a := Int.dvd_sub (Int.dvd_trans d2 (Int.dvd_mul_left _ _)) (Int.dvd_trans d1 (Int.dvd_mul_left _ _))
  have d4 : ((Nat.gcd h.a.natAbs h.b.natAbs : Nat) : Int) ∣ 1 := by
    rcases I.1 with z | z
    · rw [z] at d3; exact d3
    · rw [z] at d3; exact Int.dvd_neg.mp d3
  have := Int.natAbs_dvd_natAbs.mpr d4
  simpa using this
theorem EI.bd {f s : Int} {l h : Tr} {Al Ah : Int} (I : EI f s l h Al Ah) : Al.natAbs ≤ 2 ^ 3000 ∧ Ah.natAbs ≤ 2 ^ 3000 := by
  rcases I.2 with ⟨_, _, rfl, rfl⟩ | ⟨_, _, a, b⟩
  · exact ⟨Nat.zero_le _, Nat.zero_le _⟩
  · exact ⟨a, b⟩
end Nv

set_option linter.all false
set_option maxRecDepth 100000
set_option maxHeartbeats 4000000
namespace AW
open PySem PySem.Spec PyProof.Rows L2
def top (i : Nat) : Stmt := PySem.Challenge.pw_areawalks_k50_whole_lists_are_carried.main.body.getD i (.Pass ⟨0, 0, 0, 0⟩)
abbrev s__wall : Stmt := top 0
abbrev s_BadNumber_init : Stmt := inClass (top 3) 0
abbrev s_BadPlace_init : Stmt := inClass (top 4) 0
abbrev s_Uneven_init : Stmt := inClass (top 5) 0
abbrev s_NotOnto_init : Stmt := inClass (top 6) 0
abbrev s_is_integer : Stmt := top 8
abbrev s_check_integer : Stmt := top 9
abbrev s_Place_init : Stmt := inClass (top 11) 0
abbrev s_Place_eq : Stmt := inClass (top 11) 1
abbrev s_Place_mul : Stmt := inClass (top 11) 2
abbrev s_Place_invert : Stmt := inClass (top 11) 3
abbrev s_Place_power : Stmt := inClass (top 11) 4
abbrev s_Place_is_home : Stmt := inClass (top 11) 5
abbrev s_Place_lifted : Stmt := inClass (top 11) 6
abbrev s_Place_twist : Stmt := inClass (top 11) 7
abbrev s_check_place : Stmt := top 12
abbrev s_check_places : Stmt := top 13
abbrev s_bezout : Stmt := top 15
abbrev s_Renaming_init : Stmt := inClass (top 19) 0
abbrev s_Renaming_eq : Stmt := inClass (top 19) 1
abbrev s_Renaming_call : Stmt := inClass (top 19) 2
abbrev s_Renaming_mul : Stmt := inClass (top 19) 3
abbrev s_Renaming_invert : Stmt := inClass (top 19) 4
abbrev s_Renaming_factor : Stmt := inClass (top 19) 5
abbrev s_Renaming_power : Stmt := inClass (top 19) 6
abbrev s_Renaming_order : Stmt := inClass (top 19) 7
abbrev s_Renaming_index : Stmt := inClass (top 19) 8
abbrev s_Renaming_keeps_steps : Stmt := inClass (top 19) 9
abbrev s_image_figures : Stmt := top 20
abbrev s_image_by : Stmt := top 21
abbrev s_source_over : Stmt := top 22
abbrev s_check_onto : Stmt := top 23
abbrev s_same_names : Stmt := top 24
abbrev s_list_key : Stmt := top 26
abbrev s_alike : Stmt := top 27
abbrev s_lot_key : Stmt := top 28
abbrev s_alike_lots : Stmt := top 29
abbrev s_check_both : Stmt := top 30
abbrev s_renaming_between : Stmt := top 31
abbrev s_lot_form : Stmt := top 32
abbrev s_orders : Stmt := top 33
abbrev s_list_form : Stmt := top 34
abbrev s_level_renamings : Stmt := top 35
abbrev s_mirrored_pair : Stmt := top 36
abbrev s_settled : Stmt := top 37
abbrev s_view_times : Stmt := top 38
abbrev s_l_begin : Stmt := top 40
abbrev s_l_draw : Stmt := top 41
abbrev s_l_pick : Stmt := top 42
abbrev s_l_small : Stmt := top 43
abbrev s_l_join : Stmt := top 44
abbrev s_l_times : Stmt := top 45
abbrev s_l_place : Stmt := top 46
abbrev s_l_whole : Stmt := top 47
abbrev s_l_row : Stmt := top 48
abbrev s_l_twist : Stmt := top 49
abbrev s_l_renamed : Stmt := top 50
abbrev s_l_onto : Stmt := top 51
abbrev s_l_six : Stmt := top 52
abbrev s_l_mid : Stmt := top 53
abbrev s_l_list : Stmt := top 54
abbrev s_l_how : Stmt := top 55
abbrev s_l_refused : Stmt := top 56
abbrev s_law : Stmt := top 57
abbrev N__wall : List Str := ["k"]
abbrev P__wall : List Str := ["k"]
theorem sc__wall : FnScope N__wall P__wall (defScope s__wall) := ⟨rfl, rfl, rfl, by decide +kernel, rfl, by decide +kernel, by decide +kernel⟩
abbrev N_BadNumber_init : List Str := ["self", "value"]
abbrev P_BadNumber_init : List Str := ["self", "value"]
theorem sc_BadNumber_init : FnScope N_BadNumber_init P_BadNumber_init (defScope s_BadNumber_init) := ⟨rfl, rfl, rfl, by decide +kernel, rfl, by decide +kernel, by decide +kernel⟩
abbrev N_BadPlace_init : List Str := ["self", "value"]
abbrev P_BadPlace_init : List Str := ["self", "value"]
theorem sc_BadPlace_init : FnScope N_BadPlace_init P_BadPlace_init (defScope s_BadPlace_init) := ⟨rfl, rfl, rfl, by decide +kernel, rfl, by decide +kernel, by decide +kernel⟩
abbrev N_Uneven_init : List Str := ["self", "first", "second"]
abbrev P_Uneven_init : List Str := ["self", "first", "second"]
theorem sc_Uneven_init : FnScope N_Uneven_init P_Uneven_init (defScope s_Uneven_init) := ⟨rfl, rfl, rfl, by decide +kernel, rfl, by decide +kernel, by decide +kernel⟩
abbrev N_NotOnto_init : List Str := ["self", "number"]
abbrev P_NotOnto_init : List Str := ["self", "number"]
theorem sc_NotOnto_init : FnScope N_NotOnto_init P_NotOnto_init (defScope s_NotOnto_init) := ⟨rfl, rfl, rfl, by decide +kernel, rfl, by decide +kernel, by decide +kernel⟩
abbrev N_is_integer : List Str := ["value"]
abbrev P_is_integer : List Str := ["value"]
theorem sc_is_integer : FnScope N_is_integer P_is_integer (defScope s_is_integer) := ⟨rfl, rfl, rfl, by decide +kernel, rfl, by decide +kernel, by decide +kernel⟩
abbrev N_check_integer : List Str := ["value"]
abbrev P_check_integer : List Str := ["value"]
theorem sc_check_integer : FnScope N_check_integer P_check_integer (defScope s_check_integer) := ⟨rfl, rfl, rfl, by decide +kernel, rfl, by decide +kernel, by decide +kernel⟩
abbrev N_Place_init : List Str := ["self", "x", "y", "area", "value"]
abbrev P_Place_init : List Str := ["self", "x", "y", "area"]
theorem sc_Place_init : FnScope N_Place_init P_Place_init (defScope s_Place_init) := ⟨rfl, rfl, rfl, by decide +kernel, rfl, by decide +kernel, by decide +kernel⟩
abbrev N_Place_eq : List Str := ["self", "other"]
abbrev P_Place_eq : List Str := ["self", "other"]
theorem sc_Place_eq : FnScope N_Place_eq P_Place_eq (defScope s_Place_eq) := ⟨rfl, rfl, rfl, by decide +kernel, rfl, by decide +kernel, by decide +kernel⟩
abbrev N_Place_mul : List Str := ["self", "other"]
abbrev P_Place_mul : List Str := ["self", "other"]
theorem sc_Place_mul : FnScope N_Place_mul P_Place_mul (defScope s_Place_mul) := ⟨rfl, rfl, rfl, by decide +kernel, rfl, by decide +kernel, by decide +kernel⟩
abbrev N_Place_invert : List Str := ["self"]
abbrev P_Place_invert : List Str := ["self"]
theorem sc_Place_invert : FnScope N_Place_invert P_Place_invert (defScope s_Place_invert) := ⟨rfl, rfl, rfl, by decide +kernel, rfl, by decide +kernel, by decide +kernel⟩
abbrev N_Place_power : List Str := ["self", "number", "swept"]
abbrev P_Place_power : List Str := ["self", "number"]
theorem sc_Place_power : FnScope N_Place_power P_Place_power (defScope s_Place_power) := ⟨rfl, rfl, rfl, by decide +kernel, rfl, by decide +kernel, by decide +kernel⟩
abbrev N_Place_is_home : List Str := ["self"]
abbrev P_Place_is_home : List Str := ["self"]
theorem sc_Place_is_home : FnScope N_Place_is_home P_Place_is_home (defScope s_Place_is_home) := ⟨rfl, rfl, rfl, by decide +kernel, rfl, by decide +kernel, by decide +kernel⟩
abbrev N_Place_lifted : List Str := ["self", "storeys"]
abbrev P_Place_lifted : List Str := ["self", "storeys"]
theorem sc_Place_lifted : FnScope N_Place_lifted P_Place_lifted (defScope s_Place_lifted) := ⟨rfl, rfl, rfl, by decide +kernel, rfl, by decide +kernel, by decide +kernel⟩
abbrev N_Place_twist : List Str := ["self", "other"]
abbrev P_Place_twist : List Str := ["self", "other"]
theorem sc_Place_twist : FnScope N_Place_twist P_Place_twist (defScope s_Place_twist) := ⟨rfl, rfl, rfl, by decide +kernel, rfl, by decide +kernel, by decide +kernel⟩
abbrev N_check_place : List Str := ["value"]
abbrev P_check_place : List Str := ["value"]
theorem sc_check_place : FnScope N_check_place P_check_place (defScope s_check_place) := ⟨rfl, rfl, rfl, by decide +kernel, rfl, by decide +kernel, by decide +kernel⟩
abbrev N_check_places : List Str := ["values", "value"]
abbrev P_check_places : List Str := ["values"]
theorem sc_check_places : FnScope N_check_places P_check_places (defScope s_check_places) := ⟨rfl, rfl, rfl, by decide +kernel, rfl, by decide +kernel, by decide +kernel⟩
abbrev N_bezout : List Str := ["first", "second", "low", "high", "times", "one", "other"]
abbrev P_bezout : List Str := ["first", "second"]
theorem sc_bezout : FnScope N_bezout P_bezout (defScope s_bezout) := ⟨rfl, rfl, rfl, by decide +kernel, rfl, by decide +kernel, by decide +kernel⟩
abbrev N_Renaming_init : List Str := ["self", "east", "north"]
abbrev P_Renaming_init : List Str := ["self", "east", "north"]
theorem sc_Renaming_init : FnScope N_Renaming_init P_Renaming_init (defScope s_Renaming_init) := ⟨rfl, rfl, rfl, by decide +kernel, rfl, by decide +kernel, by decide +kernel⟩
abbrev N_Renaming_eq : List Str := ["self", "other"]
abbrev P_Renaming_eq : List Str := ["self", "other"]
theorem sc_Renaming_eq : FnScope N_Renaming_eq P_Renaming_eq (defScope s_Renaming_eq) := ⟨rfl, rfl, rfl, by decide +kernel, rfl, by decide +kernel, by decide +kernel⟩
abbrev N_Renaming_call : List Str := ["self", "place"]
abbrev P_Renaming_call : List Str := ["self", "place"]
theorem sc_Renaming_call : FnScope N_Renaming_call P_Renaming_call (defScope s_Renaming_call) := ⟨rfl, rfl, rfl, by decide +kernel, rfl, by decide +kernel, by decide +kernel⟩
abbrev N_Renaming_mul : List Str := ["self", "other"]
abbrev P_Renaming_mul : List Str := ["self", "other"]
theorem sc_Renaming_mul : FnScope N_Renaming_mul P_Renaming_mul (defScope s_Renaming_mul) := ⟨rfl, rfl, rfl, by decide +kernel, rfl, by decide +kernel, by decide +kernel⟩
abbrev N_Renaming_invert : List Str := ["self", "sign", "east", "north"]
abbrev P_Renaming_invert : List Str := ["self"]
theorem sc_Renaming_invert : FnScope N_Renaming_invert P_Renaming_invert (defScope s_Renaming_invert) := ⟨rfl, rfl, rfl, by decide +kernel, rfl, by decide +kernel, by decide +kernel⟩
abbrev N_Renaming_factor : List Str := ["self"]
abbrev P_Renaming_factor : List Str := ["self"]
theorem sc_Renaming_factor : FnScope N_Renaming_factor P_Renaming_factor (defScope s_Renaming_factor) := ⟨rfl, rfl, rfl, by decide +kernel, rfl, by decide +kernel, by decide +kernel⟩
abbrev N_Renaming_power : List Str := ["self", "number", "left", "done"]
abbrev P_Renaming_power : List Str := ["self", "number"]
theorem sc_Renaming_power : FnScope N_Renaming_power P_Renaming_power (defScope s_Renaming_power) := ⟨rfl, rfl, rfl, by decide +kernel, rfl, by decide +kernel, by decide +kernel⟩
abbrev N_Renaming_order : List Str := ["self", "number"]
abbrev P_Renaming_order : List Str := ["self"]
theorem sc_Renaming_order : FnScope N_Renaming_order P_Renaming_order (defScope s_Renaming_order) := ⟨rfl, rfl, rfl, by decide +kernel, rfl, by decide +kernel, by decide +kernel⟩
abbrev N_Renaming_index : List Str := ["self", "factor"]
abbrev P_Renaming_index : List Str := ["self"]
theorem sc_Renaming_index : FnScope N_Renaming_index P_Renaming_index (defScope s_Renaming_index) := ⟨rfl, rfl, rfl, by decide +kernel, rfl, by decide +kernel, by decide +kernel⟩
abbrev N_Renaming_keeps_steps : List Str := ["self"]
abbrev P_Renaming_keeps_steps : List Str := ["self"]
theorem sc_Renaming_keeps_steps : FnScope N_Renaming_keeps_steps P_Renaming_keeps_steps (defScope s_Renaming_keeps_steps) := ⟨rfl, rfl, rfl, by decide +kernel, rfl, by decide +kernel, by decide +kernel⟩
abbrev N_image_figures : List Str := ["east", "north", "place", "x", "y", "east_area", "north_area", "area"]
abbrev P_image_figures : List Str := ["east", "north", "place"]
theorem sc_image_figures : FnScope N_image_figures P_image_figures (defScope s_image_figures) := ⟨rfl, rfl, rfl, by decide +kernel, rfl, by decide +kernel, by decide +kernel⟩
abbrev N_image_by : List Str := ["renaming", "place", "x", "y", "area"]
abbrev P_image_by : List Str := ["renaming", "place"]
theorem sc_image_by : FnScope N_image_by P_image_by (defScope s_image_by) := ⟨rfl, rfl, rfl, by decide +kernel, rfl, by decide +kernel, by decide +kernel⟩
abbrev N_source_over : List Str := ["renaming", "x", "y"]
abbrev P_source_over : List Str := ["renaming", "x", "y"]
theorem sc_source_over : FnScope N_source_over P_source_over (defScope s_source_over) := ⟨rfl, rfl, rfl, by decide +kernel, rfl, by decide +kernel, by decide +kernel⟩
abbrev N_check_onto : List Str := ["renaming"]
abbrev P_check_onto : List Str := ["renaming"]
theorem sc_check_onto : FnScope N_check_onto P_check_onto (defScope s_check_onto) := ⟨rfl, rfl, rfl, by decide +kernel, rfl, by decide +kernel, by decide +kernel⟩
abbrev N_same_names : List Str := []
abbrev P_same_names : List Str := []
theorem sc_same_names : FnScope N_same_names P_same_names (defScope s_same_names) := ⟨rfl, rfl, rfl, by decide +kernel, rfl, by decide +kernel, by decide +kernel⟩
abbrev N_list_key : List Str := ["places"]
abbrev P_list_key : List Str := ["places"]
theorem sc_list_key : FnScope N_list_key P_list_key (defScope s_list_key) := ⟨rfl, rfl, rfl, by decide +kernel, rfl, by decide +kernel, by decide +kernel⟩
abbrev N_alike : List Str := ["places", "others"]
abbrev P_alike : List Str := ["places", "others"]
theorem sc_alike : FnScope N_alike P_alike (defScope s_alike) := ⟨rfl, rfl, rfl, by decide +kernel, rfl, by decide +kernel, by decide +kernel⟩
abbrev N_lot_key : List Str := ["places"]
abbrev P_lot_key : List Str := ["places"]
theorem sc_lot_key : FnScope N_lot_key P_lot_key (defScope s_lot_key) := ⟨rfl, rfl, rfl, by decide +kernel, rfl, by decide +kernel, by decide +kernel⟩
abbrev N_alike_lots : List Str := ["places", "others", "form", "order", "other_form", "other_order", "renaming", "indexes", "at", "other_at"]
abbrev P_alike_lots : List Str := ["places", "others"]
theorem sc_alike_lots : FnScope N_alike_lots P_alike_lots (defScope s_alike_lots) := ⟨rfl, rfl, rfl, by decide +kernel, rfl, by decide +kernel, by decide +kernel⟩
abbrev N_check_both : List Str := ["places", "others"]
abbrev P_check_both : List Str := ["places", "others"]
theorem sc_check_both : FnScope N_check_both P_check_both (defScope s_check_both) := ⟨rfl, rfl, rfl, by decide +kernel, rfl, by decide +kernel, by decide +kernel⟩
abbrev N_renaming_between : List Str := ["form", "other_form", "key", "east", "north", "other_key", "other_east", "other_north"]
abbrev P_renaming_between : List Str := ["form", "other_form"]
theorem sc_renaming_between : FnScope N_renaming_between P_renaming_between (defScope s_renaming_between) := ⟨rfl, rfl, rfl, by decide +kernel, rfl, by decide +kernel, by decide +kernel⟩
abbrev N_lot_form : List Str := ["places", "best", "order", "form", "at"]
abbrev P_lot_form : List Str := ["places"]
theorem sc_lot_form : FnScope N_lot_form P_lot_form (defScope s_lot_form) := ⟨rfl, rfl, rfl, by decide +kernel, rfl, by decide +kernel, by decide +kernel⟩
abbrev N_orders : List Str := ["count", "found", "last", "order", "at"]
abbrev P_orders : List Str := ["count"]
theorem sc_orders : FnScope N_orders P_orders (defScope s_orders) := ⟨rfl, rfl, rfl, by decide +kernel, rfl, by decide +kernel, by decide +kernel⟩
abbrev N_list_form : List Str := ["places", "forms", "east", "north"]
abbrev P_list_form : List Str := ["places"]
theorem sc_list_form : FnScope N_list_form P_list_form (defScope s_list_form) := ⟨rfl, rfl, rfl, by decide +kernel, rfl, by decide +kernel, by decide +kernel⟩
abbrev N_level_renamings : List Str := ["places", "ends", "hub", "across", "up", "common", "aside", "ahead", "beside", "second", "height", "times", "place"]
abbrev P_level_renamings : List Str := ["places"]
theorem sc_level_renamings : FnScope N_level_renamings P_level_renamings (defScope s_level_renamings) := ⟨rfl, rfl, rfl, by decide +kernel, rfl, by decide +kernel, by decide +kernel⟩
abbrev N_mirrored_pair : List Str := ["across", "aside", "up", "ahead", "sign"]
abbrev P_mirrored_pair : List Str := ["across", "aside", "up", "ahead"]
theorem sc_mirrored_pair : FnScope N_mirrored_pair P_mirrored_pair (defScope s_mirrored_pair) := ⟨rfl, rfl, rfl, by decide +kernel, rfl, by decide +kernel, by decide +kernel⟩
abbrev N_settled : List Str := ["places", "east", "north", "points", "column", "times", "place", "x", "y", "area"]
abbrev P_settled : List Str := ["places", "east", "north"]
theorem sc_settled : FnScope N_settled P_settled (defScope s_settled) := ⟨rfl, rfl, rfl, by decide +kernel, rfl, by decide +kernel, by decide +kernel⟩
abbrev N_view_times : List Str := ["points", "column", "point"]
abbrev P_view_times : List Str := ["points", "column"]
theorem sc_view_times : FnScope N_view_times P_view_times (defScope s_view_times) := ⟨rfl, rfl, rfl, by decide +kernel, rfl, by decide +kernel, by decide +kernel⟩
abbrev N_l_begin : List Str := ["_law_script"]
abbrev P_l_begin : List Str := ["_law_script"]
theorem sc_l_begin : FnScope N_l_begin P_l_begin (defScope s_l_begin) := ⟨rfl, rfl, rfl, by decide +kernel, rfl, by decide +kernel, by decide +kernel⟩
abbrev N_l_draw : List Str := ["_law_pen", "_law_span", "_law_digit", "_law_count", "_law_cell", "_law_first", "_law_blend"]
abbrev P_l_draw : List Str := ["_law_pen", "_law_span"]
theorem sc_l_draw : FnScope N_l_draw P_l_draw (defScope s_l_draw) := ⟨rfl, rfl, rfl, by decide +kernel, rfl, by decide +kernel, by decide +kernel⟩
abbrev N_l_pick : List Str := ["_law_pen", "_law_some"]
abbrev P_l_pick : List Str := ["_law_pen", "_law_some"]
theorem sc_l_pick : FnScope N_l_pick P_l_pick (defScope s_l_pick) := ⟨rfl, rfl, rfl, by decide +kernel, rfl, by decide +kernel, by decide +kernel⟩
abbrev N_l_small : List Str := ["_law_pen"]
abbrev P_l_small : List Str := ["_law_pen"]
theorem sc_l_small : FnScope N_l_small P_l_small (defScope s_l_small) := ⟨rfl, rfl, rfl, by decide +kernel, rfl, by decide +kernel, by decide +kernel⟩
abbrev N_l_join : List Str := ["_law_one", "_law_other", "_law_x", "_law_y", "_law_area", "_law_s", "_law_t", "_law_more"]
abbrev P_l_join : List Str := ["_law_one", "_law_other"]
theorem sc_l_join : FnScope N_l_join P_l_join (defScope s_l_join) := ⟨rfl, rfl, rfl, by decide +kernel, rfl, by decide +kernel, by decide +kernel⟩
abbrev N_l_times : List Str := ["_law_one", "_law_number", "_law_x", "_law_y", "_law_area", "_law_half"]
abbrev P_l_times : List Str := ["_law_one", "_law_number"]
theorem sc_l_times : FnScope N_l_times P_l_times (defScope s_l_times) := ⟨rfl, rfl, rfl, by decide +kernel, rfl, by decide +kernel, by decide +kernel⟩
abbrev N_l_place : List Str := ["_law_row_here"]
abbrev P_l_place : List Str := ["_law_row_here"]
theorem sc_l_place : FnScope N_l_place P_l_place (defScope s_l_place) := ⟨rfl, rfl, rfl, by decide +kernel, rfl, by decide +kernel, by decide +kernel⟩
abbrev N_l_whole : List Str := ["_law_value"]
abbrev P_l_whole : List Str := ["_law_value"]
theorem sc_l_whole : FnScope N_l_whole P_l_whole (defScope s_l_whole) := ⟨rfl, rfl, rfl, by decide +kernel, rfl, by decide +kernel, by decide +kernel⟩
abbrev N_l_row : List Str := ["_law_place_here", "_law_parts", "_law_part"]
abbrev P_l_row : List Str := ["_law_place_here"]
theorem sc_l_row : FnScope N_l_row P_l_row (defScope s_l_row) := ⟨rfl, rfl, rfl, by decide +kernel, rfl, by decide +kernel, by decide +kernel⟩
abbrev N_l_twist : List Str := ["_law_one", "_law_other"]
abbrev P_l_twist : List Str := ["_law_one", "_law_other"]
theorem sc_l_twist : FnScope N_l_twist P_l_twist (defScope s_l_twist) := ⟨rfl, rfl, rfl, by decide +kernel, rfl, by decide +kernel, by decide +kernel⟩
abbrev N_l_renamed : List Str := ["_law_six_here", "_law_row_here", "_law_moved"]
abbrev P_l_renamed : List Str := ["_law_six_here", "_law_row_here"]
theorem sc_l_renamed : FnScope N_l_renamed P_l_renamed (defScope s_l_renamed) := ⟨rfl, rfl, rfl, by decide +kernel, rfl, by decide +kernel, by decide +kernel⟩
abbrev N_l_onto : List Str := ["_law_pen", "_law_one", "_law_other", "_law_again", "_law_k"]
abbrev P_l_onto : List Str := ["_law_pen"]
theorem sc_l_onto : FnScope N_l_onto P_l_onto (defScope s_l_onto) := ⟨rfl, rfl, rfl, by decide +kernel, rfl, by decide +kernel, by decide +kernel⟩
abbrev N_l_six : List Str := ["_law_renaming"]
abbrev P_l_six : List Str := ["_law_renaming"]
theorem sc_l_six : FnScope N_l_six P_l_six (defScope s_l_six) := ⟨rfl, rfl, rfl, by decide +kernel, rfl, by decide +kernel, by decide +kernel⟩
abbrev N_l_mid : List Str := ["_law_pen", "_law_small_here"]
abbrev P_l_mid : List Str := ["_law_pen"]
theorem sc_l_mid : FnScope N_l_mid P_l_mid (defScope s_l_mid) := ⟨rfl, rfl, rfl, by decide +kernel, rfl, by decide +kernel, by decide +kernel⟩
abbrev N_l_list : List Str := ["_law_pen", "_law_most", "_law_way", "_law_line", "_law_found", "_law_k", "_law_row_here", "_law_times_here"]
abbrev P_l_list : List Str := ["_law_pen", "_law_most"]
theorem sc_l_list : FnScope N_l_list P_l_list (defScope s_l_list) := ⟨rfl, rfl, rfl, by decide +kernel, rfl, by decide +kernel, by decide +kernel⟩
abbrev N_l_how : List Str := ["_law_deed", "_law_told", "e"]
abbrev P_l_how : List Str := ["_law_deed"]
theorem sc_l_how : FnScope N_l_how P_l_how (defScope s_l_how) := ⟨rfl, rfl, rfl, by decide +kernel, rfl, by decide +kernel, by decide +kernel⟩
abbrev N_l_refused : List Str := ["_law_pen", "_law_places", "_law_at", "_law_wrong", "_law_bad", "_law_ask"]
abbrev P_l_refused : List Str := ["_law_pen", "_law_places"]
theorem sc_l_refused : FnScope N_l_refused P_l_refused (defScope s_l_refused) := ⟨rfl, rfl, rfl, by decide +kernel, rfl, by decide +kernel, by decide +kernel⟩
abbrev N_law : List Str := ["_law_script", "_law_pen", "_law_again", "_law_rows", "_law_six_here", "_law_others", "_law_places", "_law_goals", "_law_told", "_law_row_here", "_law_place_here"]
abbrev P_law : List Str := ["_law_script"]
theorem sc_law : FnScope N_law P_law (defScope s_law) := ⟨rfl, rfl, rfl, by decide +kernel, rfl, by decide +kernel, by decide +kernel⟩
/-- a def whose code object is known -/
structure FunC (K : PySem.W.Frag) (x qual : Str) (st : Stmt) (f : Addr) (fd : FuncData) (c : Addr) : Prop where
  ex : ∃ (oc : Value) (od : Option Addr) (kV doc pm : Value) (an : Option Addr) (ct : Value) (osl : Array (Option Value)),
    fd = PySem.W.fnOf x qual (defArgs st) (defBody st) (defScope st) .none kV doc pm an (.ref c) ct ∧ K.lookup f = some ⟨oc, od, .func fd, osl⟩ ∧ PySem.W.codeIn K (.ref c) qual = true
  kp : PySem.W.keepIn K (.ref f) = true
section
variable {P : Program} {w : World} {K : PySem.W.Frag} {mg : Str → Option Value} {base : Heap}
theorem FunC.okX {x qual : Str} {st : Stmt} {f : Addr} {fd : FuncData} {c : Addr} {N ps : List Str} {k : Nat} {sp : Sp} (F : FunC K x qual st f fd c) (S : FnScope N ps (defScope st)) (len : ∀ vs H Q E, sp vs H Q E → vs.length = ps.length)
    (hbody : ∀ (A : Around) (outer : List Env) (s : Shared) (H : Hp) (vs : List V) (Q : VK) (E : XK), Room k (A.deeper (envOfC qual (defScope st) s.heap.objs.size f (.ref c))) → sp vs H Q E →
      ∃ t, PSs (cxOf (L2.CX P w) P w K mg base N qual (defScope st) f (.ref c) A outer s H E) (defBody st) t ∧ t { nx := fun _ H' => Q .non H', rt := Q } (start N vs) H) : FnOk P w K mg base (L2.CX P w) (k + 1) f fd ps sp := by
  obtain ⟨oc, od, kV, doc, pm, an, ct, osl, rfl, lk, hcd⟩ := F.ex
  exact fn_of lk hcd S len fun A outer s H vs Q E hr hsp => hbody A outer s H vs Q E hr hsp
end
/-- what the top has left -/
structure Tx (K : PySem.W.Frag) (mg : Str → Option Value) where
  a__wall : Addr
  d__wall : FuncData
  F__wall : Fun K "_wall" "_wall" s__wall a__wall d__wall
  b__wall : Binds K d__wall P__wall []
  g__wall : mg "_wall" = some (.ref a__wall)
  a_is_integer : Addr
  d_is_integer : FuncData
  F_is_integer : Fun K "is_integer" "is_integer" s_is_integer a_is_integer d_is_integer
  b_is_integer : Binds K d_is_integer P_is_integer []
  g_is_integer : mg "is_integer" = some (.ref a_is_integer)
  a_check_integer : Addr
  d_check_integer : FuncData
  F_check_integer : Fun K "check_integer" "check_integer" s_check_integer a_check_integer d_check_integer
  b_check_integer : Binds K d_check_integer P_check_integer []
  g_check_integer : mg "check_integer" = some (.ref a_check_integer)
  a_check_place : Addr
  d_check_place : FuncData
  F_check_place : Fun K "check_place" "check_place" s_check_place a_check_place d_check_place
  b_check_place : Binds K d_check_place P_check_place []
  g_check_place : mg "check_place" = some (.ref a_check_place)
  a_check_places : Addr
  d_check_places : FuncData
  F_check_places : Fun K "check_places" "check_places" s_check_places a_check_places d_check_places
  b_check_places : Binds K d_check_places P_check_places []
  g_check_places : mg "check_places" = some (.ref a_check_places)
  a_bezout : Addr
  d_bezout : FuncData
  F_bezout : Fun K "bezout" "bezout" s_bezout a_bezout d_bezout
  b_bezout : Binds K d_bezout P_bezout []
  g_bezout : mg "bezout" = some (.ref a_bezout)
  a_image_figures : Addr
  d_image_figures : FuncData
  F_image_figures : Fun K "image_figures" "image_figures" s_image_figures a_image_figures d_image_figures
  b_image_figures : Binds K d_image_figures P_image_figures []
  g_image_figures : mg "image_figures" = some (.ref a_image_figures)
  a_image_by : Addr
  d_image_by : FuncData
  F_image_by : Fun K "image_by" "image_by" s_image_by a_image_by d_image_by
  b_image_by : Binds K d_image_by P_image_by []
  g_image_by : mg "image_by" = some (.ref a_image_by)
  a_source_over : Addr
  d_source_over : FuncData
  F_source_over : Fun K "source_over" "source_over" s_source_over a_source_over d_source_over
  b_source_over : Binds K d_source_over P_source_over []
  g_source_over : mg "source_over" = some (.ref a_source_over)
  a_check_onto : Addr
  d_check_onto : FuncData
  F_check_onto : Fun K "check_onto" "check_onto" s_check_onto a_check_onto d_check_onto
  b_check_onto : Binds K d_check_onto P_check_onto []
  g_check_onto : mg "check_onto" = some (.ref a_check_onto)
  a_same_names : Addr
  d_same_names : FuncData
  F_same_names : Fun K "same_names" "same_names" s_same_names a_same_names d_same_names
  b_same_names : Binds K d_same_names P_same_names []
  g_same_names : mg "same_names" = some (.ref a_same_names)
  a_list_key : Addr
  d_list_key : FuncData
  F_list_key : Fun K "list_key" "list_key" s_list_key a_list_key d_list_key
  b_list_key : Binds K d_list_key P_list_key []
  g_list_key : mg "list_key" = some (.ref a_list_key)
  a_alike : Addr
  d_alike : FuncData
  F_alike : Fun K "alike" "alike" s_alike a_alike d_alike
  b_alike : Binds K d_alike P_alike []
  g_alike : mg "alike" = some (.ref a_alike)
  a_lot_key : Addr
  d_lot_key : FuncData
  F_lot_key : Fun K "lot_key" "lot_key" s_lot_key a_lot_key d_lot_key
  b_lot_key : Binds K d_lot_key P_lot_key []
  g_lot_key : mg "lot_key" = some (.ref a_lot_key)
  a_alike_lots : Addr
  d_alike_lots : FuncData
  F_alike_lots : Fun K "alike_lots" "alike_lots" s_alike_lots a_alike_lots d_alike_lots
  b_alike_lots : Binds K d_alike_lots P_alike_lots []
  g_alike_lots : mg "alike_lots" = some (.ref a_alike_lots)
  a_check_both : Addr
  d_check_both : FuncData
  F_check_both : Fun K "check_both" "check_both" s_check_both a_check_both d_check_both
  b_check_both : Binds K d_check_both P_check_both []
  g_check_both : mg "check_both" = some (.ref a_check_both)
  a_renaming_between : Addr
  d_renaming_between : FuncData
  F_renaming_between : Fun K "renaming_between" "renaming_between" s_renaming_between a_renaming_between d_renaming_between
  b_renaming_between : Binds K d_renaming_between P_renaming_between []
  g_renaming_between : mg "renaming_between" = some (.ref a_renaming_between)
  a_lot_form : Addr
  d_lot_form : FuncData
  F_lot_form : Fun K "lot_form" "lot_form" s_lot_form a_lot_form d_lot_form
  b_lot_form : Binds K d_lot_form P_lot_form []
  g_lot_form : mg "lot_form" = some (.ref a_lot_form)
  a_orders : Addr
  d_orders : FuncData
  F_orders : Fun K "orders" "orders" s_orders a_orders d_orders
  b_orders : Binds K d_orders P_orders []
  g_orders : mg "orders" = some (.ref a_orders)
  a_list_form : Addr
  d_list_form : FuncData
  F_list_form : Fun K "list_form" "list_form" s_list_form a_list_form d_list_form
  b_list_form : Binds K d_list_form P_list_form []
  g_list_form : mg "list_form" = some (.ref a_list_form)
  a_level_renamings : Addr
  d_level_renamings : FuncData
  F_level_renamings : Fun K "level_renamings" "level_renamings" s_level_renamings a_level_renamings d_level_renamings
  b_level_renamings : Binds K d_level_renamings P_level_renamings []
  g_level_renamings : mg "level_renamings" = some (.ref a_level_renamings)
  a_mirrored_pair : Addr
  d_mirrored_pair : FuncData
  F_mirrored_pair : Fun K "mirrored_pair" "mirrored_pair" s_mirrored_pair a_mirrored_pair d_mirrored_pair
  b_mirrored_pair : Binds K d_mirrored_pair P_mirrored_pair []
  g_mirrored_pair : mg "mirrored_pair" = some (.ref a_mirrored_pair)
  a_settled : Addr
  d_settled : FuncData
  F_settled : Fun K "settled" "settled" s_settled a_settled d_settled
  b_settled : Binds K d_settled P_settled []
  g_settled : mg "settled" = some (.ref a_settled)
  a_view_times : Addr
  d_view_times : FuncData
  F_view_times : Fun K "view_times" "view_times" s_view_times a_view_times d_view_times
  b_view_times : Binds K d_view_times P_view_times []
  g_view_times : mg "view_times" = some (.ref a_view_times)
  a_l_begin : Addr
  d_l_begin : FuncData
  F_l_begin : Fun K "_law_begin" "_law_begin" s_l_begin a_l_begin d_l_begin
  b_l_begin : Binds K d_l_begin P_l_begin []
  g_l_begin : mg "_law_begin" = some (.ref a_l_begin)
  a_l_draw : Addr
  d_l_draw : FuncData
  F_l_draw : Fun K "_law_draw" "_law_draw" s_l_draw a_l_draw d_l_draw
  b_l_draw : Binds K d_l_draw P_l_draw []
  g_l_draw : mg "_law_draw" = some (.ref a_l_draw)
  a_l_pick : Addr
  d_l_pick : FuncData
  F_l_pick : Fun K "_law_pick" "_law_pick" s_l_pick a_l_pick d_l_pick
  b_l_pick : Binds K d_l_pick P_l_pick []
  g_l_pick : mg "_law_pick" = some (.ref a_l_pick)
  a_l_small : Addr
  d_l_small : FuncData
  F_l_small : Fun K "_law_small" "_law_small" s_l_small a_l_small d_l_small
  b_l_small : Binds K d_l_small P_l_small []
  g_l_small : mg "_law_small" = some (.ref a_l_small)
  a_l_join : Addr
  d_l_join : FuncData
  F_l_join : Fun K "_law_join" "_law_join" s_l_join a_l_join d_l_join
  b_l_join : Binds K d_l_join P_l_join []
  g_l_join : mg "_law_join" = some (.ref a_l_join)
  a_l_times : Addr
  d_l_times : FuncData
  F_l_times : Fun K "_law_times" "_law_times" s_l_times a_l_times d_l_times
  b_l_times : Binds K d_l_times P_l_times []
  g_l_times : mg "_law_times" = some (.ref a_l_times)
  a_l_place : Addr
  d_l_place : FuncData
  F_l_place : Fun K "_law_place" "_law_place" s_l_place a_l_place d_l_place
  b_l_place : Binds K d_l_place P_l_place []
  g_l_place : mg "_law_place" = some (.ref a_l_place)
  a_l_whole : Addr
  d_l_whole : FuncData
  F_l_whole : Fun K "_law_whole" "_law_whole" s_l_whole a_l_whole d_l_whole
  b_l_whole : Binds K d_l_whole P_l_whole []
  g_l_whole : mg "_law_whole" = some (.ref a_l_whole)
  a_l_row : Addr
  d_l_row : FuncData
  F_l_row : Fun K "_law_row" "_law_row" s_l_row a_l_row d_l_row
  b_l_row : Binds K d_l_row P_l_row []
  g_l_row : mg "_law_row" = some (.ref a_l_row)
  a_l_twist : Addr
  d_l_twist : FuncData
  F_l_twist : Fun K "_law_twist" "_law_twist" s_l_twist a_l_twist d_l_twist
  b_l_twist : Binds K d_l_twist P_l_twist []
  g_l_twist : mg "_law_twist" = some (.ref a_l_twist)
  a_l_renamed : Addr
  d_l_renamed : FuncData
  F_l_renamed : Fun K "_law_renamed" "_law_renamed" s_l_renamed a_l_renamed d_l_renamed
  b_l_renamed : Binds K d_l_renamed P_l_renamed []
  g_l_renamed : mg "_law_renamed" = some (.ref a_l_renamed)
  a_l_onto : Addr
  d_l_onto : FuncData
  F_l_onto : Fun K "_law_onto" "_law_onto" s_l_onto a_l_onto d_l_onto
  b_l_onto : Binds K d_l_onto P_l_onto []
  g_l_onto : mg "_law_onto" = some (.ref a_l_onto)
  a_l_six : Addr
  d_l_six : FuncData
  F_l_six : Fun K "_law_six" "_law_six" s_l_six a_l_six d_l_six
  b_l_six : Binds K d_l_six P_l_six []
  g_l_six : mg "_law_six" = some (.ref a_l_six)
  a_l_mid : Addr
  d_l_mid : FuncData
  F_l_mid : Fun K "_law_mid" "_law_mid" s_l_mid a_l_mid d_l_mid
  b_l_mid : Binds K d_l_mid P_l_mid []
  g_l_mid : mg "_law_mid" = some (.ref a_l_mid)
  a_l_list : Addr
  d_l_list : FuncData
  F_l_list : Fun K "_law_list" "_law_list" s_l_list a_l_list d_l_list
  b_l_list : Binds K d_l_list P_l_list []
  g_l_list : mg "_law_list" = some (.ref a_l_list)
  a_l_how : Addr
  d_l_how : FuncData
  F_l_how : Fun K "_law_how" "_law_how" s_l_how a_l_how d_l_how
  b_l_how : Binds K d_l_how P_l_how []
  g_l_how : mg "_law_how" = some (.ref a_l_how)
  a_l_refused : Addr
  d_l_refused : FuncData
  cc_l_refused : Addr
  pt_l_refused : Addr
  h_l_refused : PySem.W.codeHdIn K cc_l_refused pt_l_refused = true
  n_l_refused : K.lookup pt_l_refused = none
  FC_l_refused : FunC K "_law_refused" "_law_refused" s_l_refused a_l_refused d_l_refused cc_l_refused
  F_l_refused : Fun K "_law_refused" "_law_refused" s_l_refused a_l_refused d_l_refused
  b_l_refused : Binds K d_l_refused P_l_refused []
  g_l_refused : mg "_law_refused" = some (.ref a_l_refused)
  a_law : Addr
  d_law : FuncData
  F_law : Fun K "law" "law" s_law a_law d_law
  b_law : Binds K d_law P_law []
  g_law : mg "law" = some (.ref a_law)
  C_WalkError : Addr
  g_C_WalkError : mg "WalkError" = some (.ref C_WalkError)
  X_WalkError : OexC K C_WalkError
  Y_WalkError : XfC K C_WalkError
  C_BadNumber : Addr
  g_C_BadNumber : mg "BadNumber" = some (.ref C_BadNumber)
  a_BadNumber_init : Addr
  d_BadNumber_init : FuncData
  F_BadNumber_init : Fun K "__init__" "BadNumber.__init__" s_BadNumber_init a_BadNumber_init d_BadNumber_init
  b_BadNumber_init : Binds K d_BadNumber_init P_BadNumber_init []
  X_BadNumber : OexC K C_BadNumber
  Y_BadNumber : XfC K C_BadNumber
  ei_BadNumber : PySem.W.findIn K (.ref C_BadNumber) "__init__" = some (some (.ref a_BadNumber_init))
  et_BadNumber : PySem.W.typeIn K (.ref a_BadNumber_init) = some (.type "function")
  na_BadNumber_value : PySem.W.findIn K (.ref C_BadNumber) "value" = some none
  C_BadPlace : Addr
  g_C_BadPlace : mg "BadPlace" = some (.ref C_BadPlace)
  a_BadPlace_init : Addr
  d_BadPlace_init : FuncData
  F_BadPlace_init : Fun K "__init__" "BadPlace.__init__" s_BadPlace_init a_BadPlace_init d_BadPlace_init
  b_BadPlace_init : Binds K d_BadPlace_init P_BadPlace_init []
  X_BadPlace : OexC K C_BadPlace
  Y_BadPlace : XfC K C_BadPlace
  ei_BadPlace : PySem.W.findIn K (.ref C_BadPlace) "__init__" = some (some (.ref a_BadPlace_init))
  et_BadPlace : PySem.W.typeIn K (.ref a_BadPlace_init) = some (.type "function")
  na_BadPlace_value : PySem.W.findIn K (.ref C_BadPlace) "value" = some none
  C_Uneven : Addr
  g_C_Uneven : mg "Uneven" = some (.ref C_Uneven)
  a_Uneven_init : Addr
  d_Uneven_init : FuncData
  F_Uneven_init : Fun K "__init__" "Uneven.__init__" s_Uneven_init a_Uneven_init d_Uneven_init
  b_Uneven_init : Binds K d_Uneven_init P_Uneven_init []
  X_Uneven : OexC K C_Uneven
  Y_Uneven : XfC K C_Uneven
  ei_Uneven : PySem.W.findIn K (.ref C_Uneven) "__init__" = some (some (.ref a_Uneven_init))
  et_Uneven : PySem.W.typeIn K (.ref a_Uneven_init) = some (.type "function")
  na_Uneven_first : PySem.W.findIn K (.ref C_Uneven) "first" = some none
  na_Uneven_second : PySem.W.findIn K (.ref C_Uneven) "second" = some none
  C_NotOnto : Addr
  g_C_NotOnto : mg "NotOnto" = some (.ref C_NotOnto)
  a_NotOnto_init : Addr
  d_NotOnto_init : FuncData
  F_NotOnto_init : Fun K "__init__" "NotOnto.__init__" s_NotOnto_init a_NotOnto_init d_NotOnto_init
  b_NotOnto_init : Binds K d_NotOnto_init P_NotOnto_init []
  X_NotOnto : OexC K C_NotOnto
  Y_NotOnto : XfC K C_NotOnto
  ei_NotOnto : PySem.W.findIn K (.ref C_NotOnto) "__init__" = some (some (.ref a_NotOnto_init))
  et_NotOnto : PySem.W.typeIn K (.ref a_NotOnto_init) = some (.type "function")
  na_NotOnto_number : PySem.W.findIn K (.ref C_NotOnto) "number" = some none
  C_Place : Addr
  g_C_Place : mg "Place" = some (.ref C_Place)
  cl_Place : Cls K C_Place
  ca_Place : PySem.W.findIn K (.ref C_Place) "__class__" = some (some (.builtin "object.__class__"))
  cm_Place : PySem.W.mroIn K C_Place (.type "object") = some true
  na_Place_x : NoAttr K C_Place "x"
  na_Place_y : NoAttr K C_Place "y"
  na_Place_area : NoAttr K C_Place "area"
  a_Place_init : Addr
  d_Place_init : FuncData
  F_Place_init : Fun K "__init__" "Place.__init__" s_Place_init a_Place_init d_Place_init
  b_Place_init : Binds K d_Place_init P_Place_init []
  M_Place : Mk K C_Place a_Place_init
  a_Place_eq : Addr
  d_Place_eq : FuncData
  F_Place_eq : Fun K "__eq__" "Place.__eq__" s_Place_eq a_Place_eq d_Place_eq
  b_Place_eq : Binds K d_Place_eq P_Place_eq []
  E_Place : EqC K C_Place a_Place_eq
  a_Place_mul : Addr
  d_Place_mul : FuncData
  F_Place_mul : Fun K "__mul__" "Place.__mul__" s_Place_mul a_Place_mul d_Place_mul
  b_Place_mul : Binds K d_Place_mul P_Place_mul []
  O_Place_Mult : OpC K C_Place a_Place_mul .Mult
  a_Place_invert : Addr
  d_Place_invert : FuncData
  F_Place_invert : Fun K "__invert__" "Place.__invert__" s_Place_invert a_Place_invert d_Place_invert
  b_Place_invert : Binds K d_Place_invert P_Place_invert []
  m_Place_invert : PySem.W.findIn K (.ref C_Place) "__invert__" = some (some (.ref a_Place_invert))
  i_Place_invert : PySem.W.isFn K (.ref a_Place_invert) = true
  a_Place_power : Addr
  d_Place_power : FuncData
  F_Place_power : Fun K "power" "Place.power" s_Place_power a_Place_power d_Place_power
  b_Place_power : Binds K d_Place_power P_Place_power []
  M_Place_power : Meth K C_Place "power" a_Place_power
  a_Place_is_home : Addr
  d_Place_is_home : FuncData
  F_Place_is_home : Fun K "is_home" "Place.is_home" s_Place_is_home a_Place_is_home d_Place_is_home
  b_Place_is_home : Binds K d_Place_is_home P_Place_is_home []
  M_Place_is_home : Meth K C_Place "is_home" a_Place_is_home
  a_Place_lifted : Addr
  d_Place_lifted : FuncData
  F_Place_lifted : Fun K "lifted" "Place.lifted" s_Place_lifted a_Place_lifted d_Place_lifted
  b_Place_lifted : Binds K d_Place_lifted P_Place_lifted []
  M_Place_lifted : Meth K C_Place "lifted" a_Place_lifted
  a_Place_twist : Addr
  d_Place_twist : FuncData
  F_Place_twist : Fun K "twist" "Place.twist" s_Place_twist a_Place_twist d_Place_twist
  b_Place_twist : Binds K d_Place_twist P_Place_twist []
  M_Place_twist : Meth K C_Place "twist" a_Place_twist
  C_Renaming : Addr
  g_C_Renaming : mg "Renaming" = some (.ref C_Renaming)
  cl_Renaming : Cls K C_Renaming
  ca_Renaming : PySem.W.findIn K (.ref C_Renaming) "__class__" = some (some (.builtin "object.__class__"))
  cm_Renaming : PySem.W.mroIn K C_Renaming (.type "object") = some true
  na_Renaming_east : NoAttr K C_Renaming "east"
  na_Renaming_north : NoAttr K C_Renaming "north"
  a_Renaming_init : Addr
  d_Renaming_init : FuncData
  F_Renaming_init : Fun K "__init__" "Renaming.__init__" s_Renaming_init a_Renaming_init d_Renaming_init
  b_Renaming_init : Binds K d_Renaming_init P_Renaming_init []
  M_Renaming : Mk K C_Renaming a_Renaming_init
  a_Renaming_eq : Addr
  d_Renaming_eq : FuncData
  F_Renaming_eq : Fun K "__eq__" "Renaming.__eq__" s_Renaming_eq a_Renaming_eq d_Renaming_eq
  b_Renaming_eq : Binds K d_Renaming_eq P_Renaming_eq []
  E_Renaming : EqC K C_Renaming a_Renaming_eq
  a_Renaming_call : Addr
  d_Renaming_call : FuncData
  F_Renaming_call : Fun K "__call__" "Renaming.__call__" s_Renaming_call a_Renaming_call d_Renaming_call
  b_Renaming_call : Binds K d_Renaming_call P_Renaming_call []
  K_Renaming_call : CallC K C_Renaming a_Renaming_call
  M_Renaming_call : Meth K C_Renaming "__call__" a_Renaming_call
  a_Renaming_mul : Addr
  d_Renaming_mul : FuncData
  F_Renaming_mul : Fun K "__mul__" "Renaming.__mul__" s_Renaming_mul a_Renaming_mul d_Renaming_mul
  b_Renaming_mul : Binds K d_Renaming_mul P_Renaming_mul []
  O_Renaming_Mult : OpC K C_Renaming a_Renaming_mul .Mult
  a_Renaming_invert : Addr
  d_Renaming_invert : FuncData
  F_Renaming_invert : Fun K "__invert__" "Renaming.__invert__" s_Renaming_invert a_Renaming_invert d_Renaming_invert
  b_Renaming_invert : Binds K d_Renaming_invert P_Renaming_invert []
  m_Renaming_invert : PySem.W.findIn K (.ref C_Renaming) "__invert__" = some (some (.ref a_Renaming_invert))
  i_Renaming_invert : PySem.W.isFn K (.ref a_Renaming_invert) = true
  a_Renaming_factor : Addr
  d_Renaming_factor : FuncData
  F_Renaming_factor : Fun K "factor" "Renaming.factor" s_Renaming_factor a_Renaming_factor d_Renaming_factor
  b_Renaming_factor : Binds K d_Renaming_factor P_Renaming_factor []
  M_Renaming_factor : Meth K C_Renaming "factor" a_Renaming_factor
  a_Renaming_power : Addr
  d_Renaming_power : FuncData
  F_Renaming_power : Fun K "power" "Renaming.power" s_Renaming_power a_Renaming_power d_Renaming_power
  b_Renaming_power : Binds K d_Renaming_power P_Renaming_power []
  M_Renaming_power : Meth K C_Renaming "power" a_Renaming_power
  a_Renaming_order : Addr
  d_Renaming_order : FuncData
  F_Renaming_order : Fun K "order" "Renaming.order" s_Renaming_order a_Renaming_order d_Renaming_order
  b_Renaming_order : Binds K d_Renaming_order P_Renaming_order []
  M_Renaming_order : Meth K C_Renaming "order" a_Renaming_order
  a_Renaming_index : Addr
  d_Renaming_index : FuncData
  F_Renaming_index : Fun K "index" "Renaming.index" s_Renaming_index a_Renaming_index d_Renaming_index
  b_Renaming_index : Binds K d_Renaming_index P_Renaming_index []
  M_Renaming_index : Meth K C_Renaming "index" a_Renaming_index
  a_Renaming_keeps_steps : Addr
  d_Renaming_keeps_steps : FuncData
  F_Renaming_keeps_steps : Fun K "keeps_steps" "Renaming.keeps_steps" s_Renaming_keeps_steps a_Renaming_keeps_steps d_Renaming_keeps_steps
  b_Renaming_keeps_steps : Binds K d_Renaming_keeps_steps P_Renaming_keeps_steps []
  M_Renaming_keeps_steps : Meth K C_Renaming "keeps_steps" a_Renaming_keeps_steps
  cn : PySem.W.specialIn K (.builtin "object.__class__") "__get__" = some (some (.builtin "getset_descriptor.__get__"))
  ct : PySem.W.takesIn K (.builtin "object.__class__") = some true
  io_Place_int : PySem.W.kitOne K (.ref C_Place) (.type "int") = some false
  io_Place_bool : PySem.W.kitOne K (.ref C_Place) (.type "bool") = some false
  is_NoneType_Place : PySem.W.kitOne K (.type "NoneType") (.ref C_Place) = some false
  sb_NoneType_Place : PySem.W.subIn K (.type "NoneType") (.ref C_Place) = some false
  is_bool_Place : PySem.W.kitOne K (.type "bool") (.ref C_Place) = some false
  sb_bool_Place : PySem.W.subIn K (.type "bool") (.ref C_Place) = some false
  is_int_Place : PySem.W.kitOne K (.type "int") (.ref C_Place) = some false
  sb_int_Place : PySem.W.subIn K (.type "int") (.ref C_Place) = some false
  is_str_Place : PySem.W.kitOne K (.type "str") (.ref C_Place) = some false
  sb_str_Place : PySem.W.subIn K (.type "str") (.ref C_Place) = some false
  is_list_Place : PySem.W.kitOne K (.type "list") (.ref C_Place) = some false
  sb_list_Place : PySem.W.subIn K (.type "list") (.ref C_Place) = some false
  is_tuple_Place : PySem.W.kitOne K (.type "tuple") (.ref C_Place) = some false
  sb_tuple_Place : PySem.W.subIn K (.type "tuple") (.ref C_Place) = some false
  is_dict_Place : PySem.W.kitOne K (.type "dict") (.ref C_Place) = some false
  sb_dict_Place : PySem.W.subIn K (.type "dict") (.ref C_Place) = some false
  ip_Place_Renaming : PySem.W.kitOne K (.ref C_Place) (.ref C_Renaming) = some false
  sp_Place_Renaming : PySem.W.subIn K (.ref C_Place) (.ref C_Renaming) = some false
  io_Renaming_int : PySem.W.kitOne K (.ref C_Renaming) (.type "int") = some false
  io_Renaming_bool : PySem.W.kitOne K (.ref C_Renaming) (.type "bool") = some false
  is_NoneType_Renaming : PySem.W.kitOne K (.type "NoneType") (.ref C_Renaming) = some false
  sb_NoneType_Renaming : PySem.W.subIn K (.type "NoneType") (.ref C_Renaming) = some false
  is_bool_Renaming : PySem.W.kitOne K (.type "bool") (.ref C_Renaming) = some false
  sb_bool_Renaming : PySem.W.subIn K (.type "bool") (.ref C_Renaming) = some false
  is_int_Renaming : PySem.W.kitOne K (.type "int") (.ref C_Renaming) = some false
  sb_int_Renaming : PySem.W.subIn K (.type "int") (.ref C_Renaming) = some false
  is_str_Renaming : PySem.W.kitOne K (.type "str") (.ref C_Renaming) = some false
  sb_str_Renaming : PySem.W.subIn K (.type "str") (.ref C_Renaming) = some false
  is_list_Renaming : PySem.W.kitOne K (.type "list") (.ref C_Renaming) = some false
  sb_list_Renaming : PySem.W.subIn K (.type "list") (.ref C_Renaming) = some false
  is_tuple_Renaming : PySem.W.kitOne K (.type "tuple") (.ref C_Renaming) = some false
  sb_tuple_Renaming : PySem.W.subIn K (.type "tuple") (.ref C_Renaming) = some false
  is_dict_Renaming : PySem.W.kitOne K (.type "dict") (.ref C_Renaming) = some false
  sb_dict_Renaming : PySem.W.subIn K (.type "dict") (.ref C_Renaming) = some false
  ip_Renaming_Place : PySem.W.kitOne K (.ref C_Renaming) (.ref C_Place) = some false
  sp_Renaming_Place : PySem.W.subIn K (.ref C_Renaming) (.ref C_Place) = some false
  em_BadNumber_BadPlace : PySem.W.exmOne K (.ref C_BadNumber) (.ref C_BadPlace) = some false
  em_BadPlace_BadPlace : PySem.W.exmOne K (.ref C_BadPlace) (.ref C_BadPlace) = some true
  em_NotOnto_BadPlace : PySem.W.exmOne K (.ref C_NotOnto) (.ref C_BadPlace) = some false
  em_Uneven_BadPlace : PySem.W.exmOne K (.ref C_Uneven) (.ref C_BadPlace) = some false
  em_BadNumber_Uneven : PySem.W.exmOne K (.ref C_BadNumber) (.ref C_Uneven) = some false
  em_BadPlace_Uneven : PySem.W.exmOne K (.ref C_BadPlace) (.ref C_Uneven) = some false
  em_NotOnto_Uneven : PySem.W.exmOne K (.ref C_NotOnto) (.ref C_Uneven) = some false
  em_Uneven_Uneven : PySem.W.exmOne K (.ref C_Uneven) (.ref C_Uneven) = some true
  n_NotImplemented : mg "NotImplemented" = none
  n_abs : mg "abs" = none
  n_all : mg "all" = none
  n_bool : mg "bool" = none
  n_int : mg "int" = none
  n_isinstance : mg "isinstance" = none
  n_len : mg "len" = none
  n_list : mg "list" = none
  n_range : mg "range" = none
  n_tuple : mg "tuple" = none
  n_zip : mg "zip" = none
  c_FINITE_ORDERS : Addr
  gc_FINITE_ORDERS : mg "FINITE_ORDERS" = some (.ref c_FINITE_ORDERS)
  qc_FINITE_ORDERS : ∀ H : Hp, SqT K H c_FINITE_ORDERS [V.int 1, V.int 2, V.int 3, V.int 4, V.int 6]
  tk_MOST_TIMES : Tok
  gc_MOST_TIMES : mg "MOST_TIMES" = some (.int 1000 tk_MOST_TIMES)
theorem tx_mk {K : PySem.W.Frag} {h : Heap} {mg : Str → Option Value} {fa : Addr} {f__wall : Addr} {od__wall an__wall : Option Addr} {sl__wall : Array (Option Value)} {oc__wall kV__wall dc__wall pm__wall cd__wall ct__wall : Value}
    {f_BadNumber_init : Addr} {od_BadNumber_init an_BadNumber_init : Option Addr} {sl_BadNumber_init : Array (Option Value)} {oc_BadNumber_init kV_BadNumber_init dc_BadNumber_init pm_BadNumber_init cd_BadNumber_init ct_BadNumber_init : Value}
    {f_BadPlace_init : Addr} {od_BadPlace_init an_BadPlace_init : Option Addr} {sl_BadPlace_init : Array (Option Value)} {oc_BadPlace_init kV_BadPlace_init dc_BadPlace_init pm_BadPlace_init cd_BadPlace_init ct_BadPlace_init : Value}
    {f_Uneven_init : Addr} {od_Uneven_init an_Uneven_init : Option Addr} {sl_Uneven_init : Array (Option Value)} {oc_Uneven_init kV_Uneven_init dc_Uneven_init pm_Uneven_init cd_Uneven_init ct_Uneven_init : Value}
    {f_NotOnto_init : Addr} {od_NotOnto_init an_NotOnto_init : Option Addr} {sl_NotOnto_init : Array (Option Value)} {oc_NotOnto_init kV_NotOnto_init dc_NotOnto_init pm_NotOnto_init cd_NotOnto_init ct_NotOnto_init : Value}
    {f_is_integer : Addr} {od_is_integer an_is_integer : Option Addr} {sl_is_integer : Array (Option Value)} {oc_is_integer kV_is_integer dc_is_integer pm_is_integer cd_is_integer ct_is_integer : Value}
    {f_check_integer : Addr} {od_check_integer an_check_integer : Option Addr} {sl_check_integer : Array (Option Value)} {oc_check_integer kV_check_integer dc_check_integer pm_check_integer cd_check_integer ct_check_integer : Value}
    {f_Place_init : Addr} {od_Place_init an_Place_init : Option Addr} {sl_Place_init : Array (Option Value)} {oc_Place_init kV_Place_init dc_Place_init pm_Place_init cd_Place_init ct_Place_init : Value}
    {f_Place_eq : Addr} {od_Place_eq an_Place_eq : Option Addr} {sl_Place_eq : Array (Option Value)} {oc_Place_eq kV_Place_eq dc_Place_eq pm_Place_eq cd_Place_eq ct_Place_eq : Value}
    {f_Place_mul : Addr} {od_Place_mul an_Place_mul : Option Addr} {sl_Place_mul : Array (Option Value)} {oc_Place_mul kV_Place_mul dc_Place_mul pm_Place_mul cd_Place_mul ct_Place_mul : Value}
    {f_Place_invert : Addr} {od_Place_invert an_Place_invert : Option Addr} {sl_Place_invert : Array (Option Value)} {oc_Place_invert kV_Place_invert dc_Place_invert pm_Place_invert cd_Place_invert ct_Place_invert : Value}
    {f_Place_power : Addr} {od_Place_power an_Place_power : Option Addr} {sl_Place_power : Array (Option Value)} {oc_Place_power kV_Place_power dc_Place_power pm_Place_power cd_Place_power ct_Place_power : Value}
    {f_Place_is_home : Addr} {od_Place_is_home an_Place_is_home : Option Addr} {sl_Place_is_home : Array (Option Value)} {oc_Place_is_home kV_Place_is_home dc_Place_is_home pm_Place_is_home cd_Place_is_home ct_Place_is_home : Value}
    {f_Place_lifted : Addr} {od_Place_lifted an_Place_lifted : Option Addr} {sl_Place_lifted : Array (Option Value)} {oc_Place_lifted kV_Place_lifted dc_Place_lifted pm_Place_lifted cd_Place_lifted ct_Place_lifted : Value}
    {f_Place_twist : Addr} {od_Place_twist an_Place_twist : Option Addr} {sl_Place_twist : Array (Option Value)} {oc_Place_twist kV_Place_twist dc_Place_twist pm_Place_twist cd_Place_twist ct_Place_twist : Value}
    {f_check_place : Addr} {od_check_place an_check_place : Option Addr} {sl_check_place : Array (Option Value)} {oc_check_place kV_check_place dc_check_place pm_check_place cd_check_place ct_check_place : Value}
    {f_check_places : Addr} {od_check_places an_check_places : Option Addr} {sl_check_places : Array (Option Value)} {oc_check_places kV_check_places dc_check_places pm_check_places cd_check_places ct_check_places : Value}
    {f_bezout : Addr} {od_bezout an_bezout : Option Addr} {sl_bezout : Array (Option Value)} {oc_bezout kV_bezout dc_bezout pm_bezout cd_bezout ct_bezout : Value}
    {f_Renaming_init : Addr} {od_Renaming_init an_Renaming_init : Option Addr} {sl_Renaming_init : Array (Option Value)} {oc_Renaming_init kV_Renaming_init dc_Renaming_init pm_Renaming_init cd_Renaming_init ct_Renaming_init : Value}
    {f_Renaming_eq : Addr} {od_Renaming_eq an_Renaming_eq : Option Addr} {sl_Renaming_eq : Array (Option Value)} {oc_Renaming_eq kV_Renaming_eq dc_Renaming_eq pm_Renaming_eq cd_Renaming_eq ct_Renaming_eq : Value}
    {f_Renaming_call : Addr} {od_Renaming_call an_Renaming_call : Option Addr} {sl_Renaming_call : Array (Option Value)} {oc_Renaming_call kV_Renaming_call dc_Renaming_call pm_Renaming_call cd_Renaming_call ct_Renaming_call : Value}
    {f_Renaming_mul : Addr} {od_Renaming_mul an_Renaming_mul : Option Addr} {sl_Renaming_mul : Array (Option Value)} {oc_Renaming_mul kV_Renaming_mul dc_Renaming_mul pm_Renaming_mul cd_Renaming_mul ct_Renaming_mul : Value}
    {f_Renaming_invert : Addr} {od_Renaming_invert an_Renaming_invert : Option Addr} {sl_Renaming_invert : Array (Option Value)} {oc_Renaming_invert kV_Renaming_invert dc_Renaming_invert pm_Renaming_invert cd_Renaming_invert ct_Renaming_invert : Value}
    {f_Renaming_factor : Addr} {od_Renaming_factor an_Renaming_factor : Option Addr} {sl_Renaming_factor : Array (Option Value)} {oc_Renaming_factor kV_Renaming_factor dc_Renaming_factor pm_Renaming_factor cd_Renaming_factor ct_Renaming_factor : Value}
    {f_Renaming_power : Addr} {od_Renaming_power an_Renaming_power : Option Addr} {sl_Renaming_power : Array (Option Value)} {oc_Renaming_power kV_Renaming_power dc_Renaming_power pm_Renaming_power cd_Renaming_power ct_Renaming_power : Value}
    {f_Renaming_order : Addr} {od_Renaming_order an_Renaming_order : Option Addr} {sl_Renaming_order : Array (Option Value)} {oc_Renaming_order kV_Renaming_order dc_Renaming_order pm_Renaming_order cd_Renaming_order ct_Renaming_order : Value}
    {f_Renaming_index : Addr} {od_Renaming_index an_Renaming_index : Option Addr} {sl_Renaming_index : Array (Option Value)} {oc_Renaming_index kV_Renaming_index dc_Renaming_index pm_Renaming_index cd_Renaming_index ct_Renaming_index : Value}
    {f_Renaming_keeps_steps : Addr} {od_Renaming_keeps_steps an_Renaming_keeps_steps : Option Addr} {sl_Renaming_keeps_steps : Array (Option Value)} {oc_Renaming_keeps_steps kV_Renaming_keeps_steps dc_Renaming_keeps_steps pm_Renaming_keeps_steps cd_Renaming_keeps_steps ct_Renaming_keeps_steps : Value}
    {f_image_figures : Addr} {od_image_figures an_image_figures : Option Addr} {sl_image_figures : Array (Option Value)} {oc_image_figures kV_image_figures dc_image_figures pm_image_figures cd_image_figures ct_image_figures : Value}
    {f_image_by : Addr} {od_image_by an_image_by : Option Addr} {sl_image_by : Array (Option Value)} {oc_image_by kV_image_by dc_image_by pm_image_by cd_image_by ct_image_by : Value}
    {f_source_over : Addr} {od_source_over an_source_over : Option Addr} {sl_source_over : Array (Option Value)} {oc_source_over kV_source_over dc_source_over pm_source_over cd_source_over ct_source_over : Value}
    {f_check_onto : Addr} {od_check_onto an_check_onto : Option Addr} {sl_check_onto : Array (Option Value)} {oc_check_onto kV_check_onto dc_check_onto pm_check_onto cd_check_onto ct_check_onto : Value}
    {f_same_names : Addr} {od_same_names an_same_names : Option Addr} {sl_same_names : Array (Option Value)} {oc_same_names kV_same_names dc_same_names pm_same_names cd_same_names ct_same_names : Value}
    {f_list_key : Addr} {od_list_key an_list_key : Option Addr} {sl_list_key : Array (Option Value)} {oc_list_key kV_list_key dc_list_key pm_list_key cd_list_key ct_list_key : Value}
    {f_alike : Addr} {od_alike an_alike : Option Addr} {sl_alike : Array (Option Value)} {oc_alike kV_alike dc_alike pm_alike cd_alike ct_alike : Value}
    {f_lot_key : Addr} {od_lot_key an_lot_key : Option Addr} {sl_lot_key : Array (Option Value)} {oc_lot_key kV_lot_key dc_lot_key pm_lot_key cd_lot_key ct_lot_key : Value}
    {f_alike_lots : Addr} {od_alike_lots an_alike_lots : Option Addr} {sl_alike_lots : Array (Option Value)} {oc_alike_lots kV_alike_lots dc_alike_lots pm_alike_lots cd_alike_lots ct_alike_lots : Value}
    {f_check_both : Addr} {od_check_both an_check_both : Option Addr} {sl_check_both : Array (Option Value)} {oc_check_both kV_check_both dc_check_both pm_check_both cd_check_both ct_check_both : Value}
    {f_renaming_between : Addr} {od_renaming_between an_renaming_between : Option Addr} {sl_renaming_between : Array (Option Value)} {oc_renaming_between kV_renaming_between dc_renaming_between pm_renaming_between cd_renaming_between ct_renaming_between : Value}
    {f_lot_form : Addr} {od_lot_form an_lot_form : Option Addr} {sl_lot_form : Array (Option Value)} {oc_lot_form kV_lot_form dc_lot_form pm_lot_form cd_lot_form ct_lot_form : Value}
    {f_orders : Addr} {od_orders an_orders : Option Addr} {sl_orders : Array (Option Value)} {oc_orders kV_orders dc_orders pm_orders cd_orders ct_orders : Value}
    {f_list_form : Addr} {od_list_form an_list_form : Option Addr} {sl_list_form : Array (Option Value)} {oc_list_form kV_list_form dc_list_form pm_list_form cd_list_form ct_list_form : Value}
    {f_level_renamings : Addr} {od_level_renamings an_level_renamings : Option Addr} {sl_level_renamings : Array (Option Value)} {oc_level_renamings kV_level_renamings dc_level_renamings pm_level_renamings cd_level_renamings ct_level_renamings : Value}
    {f_mirrored_pair : Addr} {od_mirrored_pair an_mirrored_pair : Option Addr} {sl_mirrored_pair : Array (Option Value)} {oc_mirrored_pair kV_mirrored_pair dc_mirrored_pair pm_mirrored_pair cd_mirrored_pair ct_mirrored_pair : Value}
    {f_settled : Addr} {od_settled an_settled : Option Addr} {sl_settled : Array (Option Value)} {oc_settled kV_settled dc_settled pm_settled cd_settled ct_settled : Value}
    {f_view_times : Addr} {od_view_times an_view_times : Option Addr} {sl_view_times : Array (Option Value)} {oc_view_times kV_view_times dc_view_times pm_view_times cd_view_times ct_view_times : Value}
    {f_l_begin : Addr} {od_l_begin an_l_begin : Option Addr} {sl_l_begin : Array (Option Value)} {oc_l_begin kV_l_begin dc_l_begin pm_l_begin cd_l_begin ct_l_begin : Value}
    {f_l_draw : Addr} {od_l_draw an_l_draw : Option Addr} {sl_l_draw : Array (Option Value)} {oc_l_draw kV_l_draw dc_l_draw pm_l_draw cd_l_draw ct_l_draw : Value}
    {f_l_pick : Addr} {od_l_pick an_l_pick : Option Addr} {sl_l_pick : Array (Option Value)} {oc_l_pick kV_l_pick dc_l_pick pm_l_pick cd_l_pick ct_l_pick : Value}
    {f_l_small : Addr} {od_l_small an_l_small : Option Addr} {sl_l_small : Array (Option Value)} {oc_l_small kV_l_small dc_l_small pm_l_small cd_l_small ct_l_small : Value}
    {f_l_join : Addr} {od_l_join an_l_join : Option Addr} {sl_l_join : Array (Option Value)} {oc_l_join kV_l_join dc_l_join pm_l_join cd_l_join ct_l_join : Value}
    {f_l_times : Addr} {od_l_times an_l_times : Option Addr} {sl_l_times : Array (Option Value)} {oc_l_times kV_l_times dc_l_times pm_l_times cd_l_times ct_l_times : Value}
    {f_l_place : Addr} {od_l_place an_l_place : Option Addr} {sl_l_place : Array (Option Value)} {oc_l_place kV_l_place dc_l_place pm_l_place cd_l_place ct_l_place : Value}
    {f_l_whole : Addr} {od_l_whole an_l_whole : Option Addr} {sl_l_whole : Array (Option Value)} {oc_l_whole kV_l_whole dc_l_whole pm_l_whole cd_l_whole ct_l_whole : Value}
    {f_l_row : Addr} {od_l_row an_l_row : Option Addr} {sl_l_row : Array (Option Value)} {oc_l_row kV_l_row dc_l_row pm_l_row cd_l_row ct_l_row : Value}
    {f_l_twist : Addr} {od_l_twist an_l_twist : Option Addr} {sl_l_twist : Array (Option Value)} {oc_l_twist kV_l_twist dc_l_twist pm_l_twist cd_l_twist ct_l_twist : Value}
    {f_l_renamed : Addr} {od_l_renamed an_l_renamed : Option Addr} {sl_l_renamed : Array (Option Value)} {oc_l_renamed kV_l_renamed dc_l_renamed pm_l_renamed cd_l_renamed ct_l_renamed : Value}
    {f_l_onto : Addr} {od_l_onto an_l_onto : Option Addr} {sl_l_onto : Array (Option Value)} {oc_l_onto kV_l_onto dc_l_onto pm_l_onto cd_l_onto ct_l_onto : Value}
    {f_l_six : Addr} {od_l_six an_l_six : Option Addr} {sl_l_six : Array (Option Value)} {oc_l_six kV_l_six dc_l_six pm_l_six cd_l_six ct_l_six : Value}
    {f_l_mid : Addr} {od_l_mid an_l_mid : Option Addr} {sl_l_mid : Array (Option Value)} {oc_l_mid kV_l_mid dc_l_mid pm_l_mid cd_l_mid ct_l_mid : Value}
    {f_l_list : Addr} {od_l_list an_l_list : Option Addr} {sl_l_list : Array (Option Value)} {oc_l_list kV_l_list dc_l_list pm_l_list cd_l_list ct_l_list : Value}
    {f_l_how : Addr} {od_l_how an_l_how : Option Addr} {sl_l_how : Array (Option Value)} {oc_l_how kV_l_how dc_l_how pm_l_how cd_l_how ct_l_how : Value}
    {cc_l_refused pt_l_refused : Addr}
    {f_l_refused : Addr} {od_l_refused an_l_refused : Option Addr} {sl_l_refused : Array (Option Value)} {oc_l_refused kV_l_refused dc_l_refused pm_l_refused ct_l_refused : Value}
    {f_law : Addr} {od_law an_law : Option Addr} {sl_law : Array (Option Value)} {oc_law kV_law dc_law pm_law cd_law ct_law : Value}
    {C_WalkError : Addr}
    {C_BadNumber : Addr}
    {C_BadPlace : Addr}
    {C_Uneven : Addr}
    {C_NotOnto : Addr}
    {C_Place : Addr}
    {C_Renaming : Addr}
    {nm_WalkError qn_WalkError : Str} {NN_WalkError : Addr} {bs_WalkError sb_WalkError : List Value} {sn_WalkError : List Str} {ab_WalkError : Bool} {co_WalkError : Option Bool} {dd_WalkError : Option Addr} {m0_WalkError m1_WalkError m2_WalkError m3_WalkError m5_WalkError : Option Value}
    {nm_BadNumber qn_BadNumber : Str} {NN_BadNumber : Addr} {bs_BadNumber sb_BadNumber : List Value} {sn_BadNumber : List Str} {ab_BadNumber : Bool} {co_BadNumber : Option Bool} {dd_BadNumber : Option Addr} {m0_BadNumber m1_BadNumber m2_BadNumber m3_BadNumber m5_BadNumber : Option Value}
    {nm_BadPlace qn_BadPlace : Str} {NN_BadPlace : Addr} {bs_BadPlace sb_BadPlace : List Value} {sn_BadPlace : List Str} {ab_BadPlace : Bool} {co_BadPlace : Option Bool} {dd_BadPlace : Option Addr} {m0_BadPlace m1_BadPlace m2_BadPlace m3_BadPlace m5_BadPlace : Option Value}
    {nm_Uneven qn_Uneven : Str} {NN_Uneven : Addr} {bs_Uneven sb_Uneven : List Value} {sn_Uneven : List Str} {ab_Uneven : Bool} {co_Uneven : Option Bool} {dd_Uneven : Option Addr} {m0_Uneven m1_Uneven m2_Uneven m3_Uneven m5_Uneven : Option Value}
    {nm_NotOnto qn_NotOnto : Str} {NN_NotOnto : Addr} {bs_NotOnto sb_NotOnto : List Value} {sn_NotOnto : List Str} {ab_NotOnto : Bool} {co_NotOnto : Option Bool} {dd_NotOnto : Option Addr} {m0_NotOnto m1_NotOnto m2_NotOnto m3_NotOnto m5_NotOnto : Option Value}
    {k_FINITE_ORDERS : Addr} {od_FINITE_ORDERS : Option Addr} {its_FINITE_ORDERS : Array Value} {n_FINITE_ORDERS : Nat} {sl_FINITE_ORDERS : Array (Option Value)}
    {tk_MOST_TIMES : Tok}
    (X : K.In h) (G : h.Ns mainGlobals mg) (hfa : mg "law" = some (.ref fa))
    (g__wall : PySem.W.nsIn K mainGlobals "_wall" = some (some (.ref f__wall)))
    (l__wall : K.lookup f__wall = some ⟨oc__wall, od__wall, .func (PySem.W.fnOf "_wall" "_wall" (defArgs s__wall) (defBody s__wall) (defScope s__wall) .none kV__wall dc__wall pm__wall an__wall cd__wall ct__wall), sl__wall⟩)
    (c__wall : PySem.W.codeIn K cd__wall "_wall" = true)
    (k__wall : PySem.W.keepIn K (.ref f__wall) = true)
    (g_is_integer : PySem.W.nsIn K mainGlobals "is_integer" = some (some (.ref f_is_integer)))
    (l_is_integer : K.lookup f_is_integer = some ⟨oc_is_integer, od_is_integer, .func (PySem.W.fnOf "is_integer" "is_integer" (defArgs s_is_integer) (defBody s_is_integer) (defScope s_is_integer) .none kV_is_integer dc_is_integer pm_is_integer an_is_integer cd_is_integer ct_is_integer), sl_is_integer⟩)
    (c_is_integer : PySem.W.codeIn K cd_is_integer "is_integer" = true)
    (k_is_integer : PySem.W.keepIn K (.ref f_is_integer) = true)
    (g_check_integer : PySem.W.nsIn K mainGlobals "check_integer" = some (some (.ref f_check_integer)))
    (l_check_integer : K.lookup f_check_integer = some ⟨oc_check_integer, od_check_integer, .func (PySem.W.fnOf "check_integer" "check_integer" (defArgs s_check_integer) (defBody s_check_integer) (defScope s_check_integer) .none kV_check_integer dc_check_integer pm_check_integer an_check_integer cd_check_integer ct_check_integer), sl_check_integer⟩)
    (c_check_integer : PySem.W.codeIn K cd_check_integer "check_integer" = true)
    (k_check_integer : PySem.W.keepIn K (.ref f_check_integer) = true)
    (g_check_place : PySem.W.nsIn K mainGlobals "check_place" = some (some (.ref f_check_place)))
    (l_check_place : K.lookup f_check_place = some ⟨oc_check_place, od_check_place, .func (PySem.W.fnOf "check_place" "check_place" (defArgs s_check_place) (defBody s_check_place) (defScope s_check_place) .none kV_check_place dc_check_place pm_check_place an_check_place cd_check_place ct_check_place), sl_check_place⟩)
    (c_check_place : PySem.W.codeIn K cd_check_place "check_place" = true)
    (k_check_place : PySem.W.keepIn K (.ref f_check_place) = true)
    (g_check_places : PySem.W.nsIn K mainGlobals "check_places" = some (some (.ref f_check_places)))
    (l_check_places : K.lookup f_check_places = some ⟨oc_check_places, od_check_places, .func (PySem.W.fnOf "check_places" "check_places" (defArgs s_check_places) (defBody s_check_places) (defScope s_check_places) .none kV_check_places dc_check_places pm_check_places an_check_places cd_check_places ct_check_places), sl_check_places⟩)
    (c_check_places : PySem.W.codeIn K cd_check_places "check_places" = true)
    (k_check_places : PySem.W.keepIn K (.ref f_check_places) = true)
    (g_bezout : PySem.W.nsIn K mainGlobals "bezout" = some (some (.ref f_bezout)))
    (l_bezout : K.lookup f_bezout = some ⟨oc_bezout, od_bezout, .func (PySem.W.fnOf "bezout" "bezout" (defArgs s_bezout) (defBody s_bezout) (defScope s_bezout) .none kV_bezout dc_bezout pm_bezout an_bezout cd_bezout ct_bezout), sl_bezout⟩)
    (c_bezout : PySem.W.codeIn K cd_bezout "bezout" = true)
    (k_bezout : PySem.W.keepIn K (.ref f_bezout) = true)
    (g_image_figures : PySem.W.nsIn K mainGlobals "image_figures" = some (some (.ref f_image_figures)))
    (l_image_figures : K.lookup f_image_figures = some ⟨oc_image_figures, od_image_figures, .func (PySem.W.fnOf "image_figures" "image_figures" (defArgs s_image_figures) (defBody s_image_figures) (defScope s_image_figures) .none kV_image_figures dc_image_figures pm_image_figures an_image_figures cd_image_figures ct_image_figures), sl_image_figures⟩)
    (c_image_figures : PySem.W.codeIn K cd_image_figures "image_figures" = true)
    (k_image_figures : PySem.W.keepIn K (.ref f_image_figures) = true)
    (g_image_by : PySem.W.nsIn K mainGlobals "image_by" = some (some (.ref f_image_by)))
    (l_image_by : K.lookup f_image_by = some ⟨oc_image_by, od_image_by, .func (PySem.W.fnOf "image_by" "image_by" (defArgs s_image_by) (defBody s_image_by) (defScope s_image_by) .none kV_image_by dc_image_by pm_image_by an_image_by cd_image_by ct_image_by), sl_image_by⟩)
    (c_image_by : PySem.W.codeIn K cd_image_by "image_by" = true)
    (k_image_by : PySem.W.keepIn K (.ref f_image_by) = true)
    (g_source_over : PySem.W.nsIn K mainGlobals "source_over" = some (some (.ref f_source_over)))
    (l_source_over : K.lookup f_source_over = some ⟨oc_source_over, od_source_over, .func (PySem.W.fnOf "source_over" "source_over" (defArgs s_source_over) (defBody s_source_over) (defScope s_source_over) .none kV_source_over dc_source_over pm_source_over an_source_over cd_source_over ct_source_over), sl_source_over⟩)
    (c_source_over : PySem.W.codeIn K cd_source_over "source_over" = true)
    (k_source_over : PySem.W.keepIn K (.ref f_source_over) = true)
    (g_check_onto : PySem.W.nsIn K mainGlobals "check_onto" = some (some (.ref f_check_onto)))
    (l_check_onto : K.lookup f_check_onto = some ⟨oc_check_onto, od_check_onto, .func (PySem.W.fnOf "check_onto" "check_onto" (defArgs s_check_onto) (defBody s_check_onto) (defScope s_check_onto) .none kV_check_onto dc_check_onto pm_check_onto an_check_onto cd_check_onto ct_check_onto), sl_check_onto⟩)
    (c_check_onto : PySem.W.codeIn K cd_check_onto "check_onto" = true)
    (k_check_onto : PySem.W.keepIn K (.ref f_check_onto) = true)
    (g_same_names : PySem.W.nsIn K mainGlobals "same_names" = some (some (.ref f_same_names)))
    (l_same_names : K.lookup f_same_names = some ⟨oc_same_names, od_same_names, .func (PySem.W.fnOf "same_names" "same_names" (defArgs s_same_names) (defBody s_same_names) (defScope s_same_names) .none kV_same_names dc_same_names pm_same_names an_same_names cd_same_names ct_same_names), sl_same_names⟩)
    (c_same_names : PySem.W.codeIn K cd_same_names "same_names" = true)
    (k_same_names : PySem.W.keepIn K (.ref f_same_names) = true)
    (g_list_key : PySem.W.nsIn K mainGlobals "list_key" = some (some (.ref f_list_key)))
    (l_list_key : K.lookup f_list_key = some ⟨oc_list_key, od_list_key, .func (PySem.W.fnOf "list_key" "list_key" (defArgs s_list_key) (defBody s_list_key) (defScope s_list_key) .none kV_list_key dc_list_key pm_list_key an_list_key cd_list_key ct_list_key), sl_list_key⟩)
    (c_list_key : PySem.W.codeIn K cd_list_key "list_key" = true)
    (k_list_key : PySem.W.keepIn K (.ref f_list_key) = true)
    (g_alike : PySem.W.nsIn K mainGlobals "alike" = some (some (.ref f_alike)))
    (l_alike : K.lookup f_alike = some ⟨oc_alike, od_alike, .func (PySem.W.fnOf "alike" "alike" (defArgs s_alike) (defBody s_alike) (defScope s_alike) .none kV_alike dc_alike pm_alike an_alike cd_alike ct_alike), sl_alike⟩)
    (c_alike : PySem.W.codeIn K cd_alike "alike" = true)
    (k_alike : PySem.W.keepIn K (.ref f_alike) = true)
    (g_lot_key : PySem.W.nsIn K mainGlobals "lot_key" = some (some (.ref f_lot_key)))
    (l_lot_key : K.lookup f_lot_key = some ⟨oc_lot_key, od_lot_key, .func (PySem.W.fnOf "lot_key" "lot_key" (defArgs s_lot_key) (defBody s_lot_key) (defScope s_lot_key) .none kV_lot_key dc_lot_key pm_lot_key an_lot_key cd_lot_key ct_lot_key), sl_lot_key⟩)
    (c_lot_key : PySem.W.codeIn K cd_lot_key "lot_key" = true)
    (k_lot_key : PySem.W.keepIn K (.ref f_lot_key) = true)
    (g_alike_lots : PySem.W.nsIn K mainGlobals "alike_lots" = some (some (.ref f_alike_lots)))
    (l_alike_lots : K.lookup f_alike_lots = some ⟨oc_alike_lots, od_alike_lots, .func (PySem.W.fnOf "alike_lots" "alike_lots" (defArgs s_alike_lots) (defBody s_alike_lots) (defScope s_alike_lots) .none kV_alike_lots dc_alike_lots pm_alike_lots an_alike_lots cd_alike_lots ct_alike_lots), sl_alike_lots⟩)
    (c_alike_lots : PySem.W.codeIn K cd_alike_lots "alike_lots" = true)
    (k_alike_lots : PySem.W.keepIn K (.ref f_alike_lots) = true)
    (g_check_both : PySem.W.nsIn K mainGlobals "check_both" = some (some (.ref f_check_both)))
    (l_check_both : K.lookup f_check_both = some ⟨oc_check_both, od_check_both, .func (PySem.W.fnOf "check_both" "check_both" (defArgs s_check_both) (defBody s_check_both) (defScope s_check_both) .none kV_check_both dc_check_both pm_check_both an_check_both cd_check_both ct_check_both), sl_check_both⟩)
    (c_check_both : PySem.W.codeIn K cd_check_both "check_both" = true)
    (k_check_both : PySem.W.keepIn K (.ref f_check_both) = true)
    (g_renaming_between : PySem.W.nsIn K mainGlobals "renaming_between" = some (some (.ref f_renaming_between)))
    (l_renaming_between : K.lookup f_renaming_between = some ⟨oc_renaming_between, od_renaming_between, .func (PySem.W.fnOf "renaming_between" "renaming_between" (defArgs s_renaming_between) (defBody s_renaming_between) (defScope s_renaming_between) .none kV_renaming_between dc_renaming_between pm_renaming_between an_renaming_between cd_renaming_between ct_renaming_between), sl_renaming_between⟩)
    (c_renaming_between : PySem.W.codeIn K cd_renaming_between "renaming_between" = true)
    (k_renaming_between : PySem.W.keepIn K (.ref f_renaming_between) = true)
    (g_lot_form : PySem.W.nsIn K mainGlobals "lot_form" = some (some (.ref f_lot_form)))
    (l_lot_form : K.lookup f_lot_form = some ⟨oc_lot_form, od_lot_form, .func (PySem.W.fnOf "lot_form" "lot_form" (defArgs s_lot_form) (defBody s_lot_form) (defScope s_lot_form) .none kV_lot_form dc_lot_form pm_lot_form an_lot_form cd_lot_form ct_lot_form), sl_lot_form⟩)
    (c_lot_form : PySem.W.codeIn K cd_lot_form "lot_form" = true)
    (k_lot_form : PySem.W.keepIn K (.ref f_lot_form) = true)
    (g_orders : PySem.W.nsIn K mainGlobals "orders" = some (some (.ref f_orders)))
    (l_orders : K.lookup f_orders = some ⟨oc_orders, od_orders, .func (PySem.W.fnOf "orders" "orders" (defArgs s_orders) (defBody s_orders) (defScope s_orders) .none kV_orders dc_orders pm_orders an_orders cd_orders ct_orders), sl_orders⟩)
    (c_orders : PySem.W.codeIn K cd_orders "orders" = true)
    (k_orders : PySem.W.keepIn K (.ref f_orders) = true)
    (g_list_form : PySem.W.nsIn K mainGlobals "list_form" = some (some (.ref f_list_form)))
    (l_list_form : K.lookup f_list_form = some ⟨oc_list_form, od_list_form, .func (PySem.W.fnOf "list_form" "list_form" (defArgs s_list_form) (defBody s_list_form) (defScope s_list_form) .none kV_list_form dc_list_form pm_list_form an_list_form cd_list_form ct_list_form), sl_list_form⟩)
    (c_list_form : PySem.W.codeIn K cd_list_form "list_form" = true)
    (k_list_form : PySem.W.keepIn K (.ref f_list_form) = true)
    (g_level_renamings : PySem.W.nsIn K mainGlobals "level_renamings" = some (some (.ref f_level_renamings)))
    (l_level_renamings : K.lookup f_level_renamings = some ⟨oc_level_renamings, od_level_renamings, .func (PySem.W.fnOf "level_renamings" "level_renamings" (defArgs s_level_renamings) (defBody s_level_renamings) (defScope s_level_renamings) .none kV_level_renamings dc_level_renamings pm_level_renamings an_level_renamings cd_level_renamings ct_level_renamings), sl_level_renamings⟩)
    (c_level_renamings : PySem.W.codeIn K cd_level_renamings "level_renamings" = true)
    (k_level_renamings : PySem.W.keepIn K (.ref f_level_renamings) = true)
    (g_mirrored_pair : PySem.W.nsIn K mainGlobals "mirrored_pair" = some (some (.ref f_mirrored_pair)))
    (l_mirrored_pair : K.lookup f_mirrored_pair = some ⟨oc_mirrored_pair, od_mirrored_pair, .func (PySem.W.fnOf "mirrored_pair" "mirrored_pair" (defArgs s_mirrored_pair) (defBody s_mirrored_pair) (defScope s_mirrored_pair) .none kV_mirrored_pair dc_mirrored_pair pm_mirrored_pair an_mirrored_pair cd_mirrored_pair ct_mirrored_pair), sl_mirrored_pair⟩)
    (c_mirrored_pair : PySem.W.codeIn K cd_mirrored_pair "mirrored_pair" = true)
    (k_mirrored_pair : PySem.W.keepIn K (.ref f_mirrored_pair) = true)
    (g_settled : PySem.W.nsIn K mainGlobals "settled" = some (some (.ref f_settled)))
    (l_settled : K.lookup f_settled = some ⟨oc_settled, od_settled, .func (PySem.W.fnOf "settled" "settled" (defArgs s_settled) (defBody s_settled) (defScope s_settled) .none kV_settled dc_settled pm_settled an_settled cd_settled ct_settled), sl_settled⟩)
    (c_settled : PySem.W.codeIn K cd_settled "settled" = true)
    (k_settled : PySem.W.keepIn K (.ref f_settled) = true)
    (g_view_times : PySem.W.nsIn K mainGlobals "view_times" = some (some (.ref f_view_times)))
    (l_view_times : K.lookup f_view_times = some ⟨oc_view_times, od_view_times, .func (PySem.W.fnOf "view_times" "view_times" (defArgs s_view_times) (defBody s_view_times) (defScope s_view_times) .none kV_view_times dc_view_times pm_view_times an_view_times cd_view_times ct_view_times), sl_view_times⟩)
    (c_view_times : PySem.W.codeIn K cd_view_times "view_times" = true)
    (k_view_times : PySem.W.keepIn K (.ref f_view_times) = true)
    (g_l_begin : PySem.W.nsIn K mainGlobals "_law_begin" = some (some (.ref f_l_begin)))
    (l_l_begin : K.lookup f_l_begin = some ⟨oc_l_begin, od_l_begin, .func (PySem.W.fnOf "_law_begin" "_law_begin" (defArgs s_l_begin) (defBody s_l_begin) (defScope s_l_begin) .none kV_l_begin dc_l_begin pm_l_begin an_l_begin cd_l_begin ct_l_begin), sl_l_begin⟩)
    (c_l_begin : PySem.W.codeIn K cd_l_begin "_law_begin" = true)
    (k_l_begin : PySem.W.keepIn K (.ref f_l_begin) = true)
    (g_l_draw : PySem.W.nsIn K mainGlobals "_law_draw" = some (some (.ref f_l_draw)))
    (l_l_draw : K.lookup f_l_draw = some ⟨oc_l_draw, od_l_draw, .func (PySem.W.fnOf "_law_draw" "_law_draw" (defArgs s_l_draw) (defBody s_l_draw) (defScope s_l_draw) .none kV_l_draw dc_l_draw pm_l_draw an_l_draw cd_l_draw ct_l_draw), sl_l_draw⟩)
    (c_l_draw : PySem.W.codeIn K cd_l_draw "_law_draw" = true)
    (k_l_draw : PySem.W.keepIn K (.ref f_l_draw) = true)
    (g_l_pick : PySem.W.nsIn K mainGlobals "_law_pick" = some (some (.ref f_l_pick)))
    (l_l_pick : K.lookup f_l_pick = some ⟨oc_l_pick, od_l_pick, .func (PySem.W.fnOf "_law_pick" "_law_pick" (defArgs s_l_pick) (defBody s_l_pick) (defScope s_l_pick) .none kV_l_pick dc_l_pick pm_l_pick an_l_pick cd_l_pick ct_l_pick), sl_l_pick⟩)
    (c_l_pick : PySem.W.codeIn K cd_l_pick "_law_pick" = true)
    (k_l_pick : PySem.W.keepIn K (.ref f_l_pick) = true)
    (g_l_small : PySem.W.nsIn K mainGlobals "_law_small" = some (some (.ref f_l_small)))
    (l_l_small : K.lookup f_l_small = some ⟨oc_l_small, od_l_small, .func (PySem.W.fnOf "_law_small" "_law_small" (defArgs s_l_small) (defBody s_l_small) (defScope s_l_small) .none kV_l_small dc_l_small pm_l_small an_l_small cd_l_small ct_l_small), sl_l_small⟩)
    (c_l_small : PySem.W.codeIn K cd_l_small "_law_small" = true)
    (k_l_small : PySem.W.keepIn K (.ref f_l_small) = true)
    (g_l_join : PySem.W.nsIn K mainGlobals "_law_join" = some (some (.ref f_l_join)))
    (l_l_join : K.lookup f_l_join = some ⟨oc_l_join, od_l_join, .func (PySem.W.fnOf "_law_join" "_law_join" (defArgs s_l_join) (defBody s_l_join) (defScope s_l_join) .none kV_l_join dc_l_join pm_l_join an_l_join cd_l_join ct_l_join), sl_l_join⟩)
    (c_l_join : PySem.W.codeIn K cd_l_join "_law_join" = true)
    (k_l_join : PySem.W.keepIn K (.ref f_l_join) = true)
    (g_l_times : PySem.W.nsIn K mainGlobals "_law_times" = some (some (.ref f_l_times)))
    (l_l_times : K.lookup f_l_times = some ⟨oc_l_times, od_l_times, .func (PySem.W.fnOf "_law_times" "_law_times" (defArgs s_l_times) (defBody s_l_times) (defScope s_l_times) .none kV_l_times dc_l_times pm_l_times an_l_times cd_l_times ct_l_times), sl_l_times⟩)
    (c_l_times : PySem.W.codeIn K cd_l_times "_law_times" = true)
    (k_l_times : PySem.W.keepIn K (.ref f_l_times) = true)
    (g_l_place : PySem.W.nsIn K mainGlobals "_law_place" = some (some (.ref f_l_place)))
    (l_l_place : K.lookup f_l_place = some ⟨oc_l_place, od_l_place, .func (PySem.W.fnOf "_law_place" "_law_place" (defArgs s_l_place) (defBody s_l_place) (defScope s_l_place) .none kV_l_place dc_l_place pm_l_place an_l_place cd_l_place ct_l_place), sl_l_place⟩)
    (c_l_place : PySem.W.codeIn K cd_l_place "_law_place" = true)
    (k_l_place : PySem.W.keepIn K (.ref f_l_place) = true)
    (g_l_whole : PySem.W.nsIn K mainGlobals "_law_whole" = some (some (.ref f_l_whole)))
    (l_l_whole : K.lookup f_l_whole = some ⟨oc_l_whole, od_l_whole, .func (PySem.W.fnOf "_law_whole" "_law_whole" (defArgs s_l_whole) (defBody s_l_whole) (defScope s_l_whole) .none kV_l_whole dc_l_whole pm_l_whole an_l_whole cd_l_whole ct_l_whole), sl_l_whole⟩)
    (c_l_whole : PySem.W.codeIn K cd_l_whole "_law_whole" = true)
    (k_l_whole : PySem.W.keepIn K (.ref f_l_whole) = true)
    (g_l_row : PySem.W.nsIn K mainGlobals "_law_row" = some (some (.ref f_l_row)))
    (l_l_row : K.lookup f_l_row = some ⟨oc_l_row, od_l_row, .func (PySem.W.fnOf "_law_row" "_law_row" (defArgs s_l_row) (defBody s_l_row) (defScope s_l_row) .none kV_l_row dc_l_row pm_l_row an_l_row cd_l_row ct_l_row), sl_l_row⟩)
    (c_l_row : PySem.W.codeIn K cd_l_row "_law_row" = true)
    (k_l_row : PySem.W.keepIn K (.ref f_l_row) = true)
    (g_l_twist : PySem.W.nsIn K mainGlobals "_law_twist" = some (some (.ref f_l_twist)))
    (l_l_twist : K.lookup f_l_twist = some ⟨oc_l_twist, od_l_twist, .func (PySem.W.fnOf "_law_twist" "_law_twist" (defArgs s_l_twist) (defBody s_l_twist) (defScope s_l_twist) .none kV_l_twist dc_l_twist pm_l_twist an_l_twist cd_l_twist ct_l_twist), sl_l_twist⟩)
    (c_l_twist : PySem.W.codeIn K cd_l_twist "_law_twist" = true)
    (k_l_twist : PySem.W.keepIn K (.ref f_l_twist) = true)
    (g_l_renamed : PySem.W.nsIn K mainGlobals "_law_renamed" = some (some (.ref f_l_renamed)))
    (l_l_renamed : K.lookup f_l_renamed = some ⟨oc_l_renamed, od_l_renamed, .func (PySem.W.fnOf "_law_renamed" "_law_renamed" (defArgs s_l_renamed) (defBody s_l_renamed) (defScope s_l_renamed) .none kV_l_renamed dc_l_renamed pm_l_renamed an_l_renamed cd_l_renamed ct_l_renamed), sl_l_renamed⟩)
    (c_l_renamed : PySem.W.codeIn K cd_l_renamed "_law_renamed" = true)
    (k_l_renamed : PySem.W.keepIn K (.ref f_l_renamed) = true)
    (g_l_onto : PySem.W.nsIn K mainGlobals "_law_onto" = some (some (.ref f_l_onto)))
    (l_l_onto : K.lookup f_l_onto = some ⟨oc_l_onto, od_l_onto, .func (PySem.W.fnOf "_law_onto" "_law_onto" (defArgs s_l_onto) (defBody s_l_onto) (defScope s_l_onto) .none kV_l_onto dc_l_onto pm_l_onto an_l_onto cd_l_onto ct_l_onto), sl_l_onto⟩)
    (c_l_onto : PySem.W.codeIn K cd_l_onto "_law_onto" = true)
    (k_l_onto : PySem.W.keepIn K (.ref f_l_onto) = true)
    (g_l_six : PySem.W.nsIn K mainGlobals "_law_six" = some (some (.ref f_l_six)))
    (l_l_six : K.lookup f_l_six = some ⟨oc_l_six, od_l_six, .func (PySem.W.fnOf "_law_six" "_law_six" (defArgs s_l_six) (defBody s_l_six) (defScope s_l_six) .none kV_l_six dc_l_six pm_l_six an_l_six cd_l_six ct_l_six), sl_l_six⟩)
    (c_l_six : PySem.W.codeIn K cd_l_six "_law_six" = true)
    (k_l_six : PySem.W.keepIn K (.ref f_l_six) = true)
    (g_l_mid : PySem.W.nsIn K mainGlobals "_law_mid" = some (some (.ref f_l_mid)))
    (l_l_mid : K.lookup f_l_mid = some ⟨oc_l_mid, od_l_mid, .func (PySem.W.fnOf "_law_mid" "_law_mid" (defArgs s_l_mid) (defBody s_l_mid) (defScope s_l_mid) .none kV_l_mid dc_l_mid pm_l_mid an_l_mid cd_l_mid ct_l_mid), sl_l_mid⟩)
    (c_l_mid : PySem.W.codeIn K cd_l_mid "_law_mid" = true)
    (k_l_mid : PySem.W.keepIn K (.ref f_l_mid) = true)
    (g_l_list : PySem.W.nsIn K mainGlobals "_law_list" = some (some (.ref f_l_list)))
    (l_l_list : K.lookup f_l_list = some ⟨oc_l_list, od_l_list, .func (PySem.W.fnOf "_law_list" "_law_list" (defArgs s_l_list) (defBody s_l_list) (defScope s_l_list) .none kV_l_list dc_l_list pm_l_list an_l_list cd_l_list ct_l_list), sl_l_list⟩)
    (c_l_list : PySem.W.codeIn K cd_l_list "_law_list" = true)
    (k_l_list : PySem.W.keepIn K (.ref f_l_list) = true)
    (g_l_how : PySem.W.nsIn K mainGlobals "_law_how" = some (some (.ref f_l_how)))
    (l_l_how : K.lookup f_l_how = some ⟨oc_l_how, od_l_how, .func (PySem.W.fnOf "_law_how" "_law_how" (defArgs s_l_how) (defBody s_l_how) (defScope s_l_how) .none kV_l_how dc_l_how pm_l_how an_l_how cd_l_how ct_l_how), sl_l_how⟩)
    (c_l_how : PySem.W.codeIn K cd_l_how "_law_how" = true)
    (k_l_how : PySem.W.keepIn K (.ref f_l_how) = true)
    (g_l_refused : PySem.W.nsIn K mainGlobals "_law_refused" = some (some (.ref f_l_refused)))
    (l_l_refused : K.lookup f_l_refused = some ⟨oc_l_refused, od_l_refused, .func (PySem.W.fnOf "_law_refused" "_law_refused" (defArgs s_l_refused) (defBody s_l_refused) (defScope s_l_refused) .none kV_l_refused dc_l_refused pm_l_refused an_l_refused (Value.ref cc_l_refused) ct_l_refused), sl_l_refused⟩)
    (c_l_refused : PySem.W.codeIn K (Value.ref cc_l_refused) "_law_refused" = true)
    (h_l_refused : PySem.W.codeHdIn K cc_l_refused pt_l_refused = true)
    (n_l_refused : K.lookup pt_l_refused = none)
    (k_l_refused : PySem.W.keepIn K (.ref f_l_refused) = true)
    (g_law : PySem.W.nsIn K mainGlobals "law" = some (some (.ref f_law)))
    (l_law : K.lookup f_law = some ⟨oc_law, od_law, .func (PySem.W.fnOf "law" "law" (defArgs s_law) (defBody s_law) (defScope s_law) .none kV_law dc_law pm_law an_law cd_law ct_law), sl_law⟩)
    (c_law : PySem.W.codeIn K cd_law "law" = true)
    (k_law : PySem.W.keepIn K (.ref f_law) = true)
    (g_C_WalkError : PySem.W.nsIn K mainGlobals "WalkError" = some (some (.ref C_WalkError)))
    (sa_WalkError : PySem.W.findIn K (.ref C_WalkError) "__setattr__" = some (some (.builtin "object.__setattr__")))
    (ex_WalkError : PySem.W.subIn K (.ref C_WalkError) (.type "BaseException") = some true)
    (ty_WalkError : PySem.W.typeIn K (.ref C_WalkError) = some (.type "type"))
    (kc_WalkError : PySem.W.keepIn K (.ref C_WalkError) = true)
    (ga_WalkError : PySem.W.findIn K (.ref C_WalkError) "__getattribute__" = some (some (.builtin "BaseException.__getattribute__")))
    (gg_WalkError : PySem.W.findIn K (.ref C_WalkError) "__getattr__" = some none)
    (hd_WalkError : PySem.W.hasDictIn K C_WalkError = true)
    (ic_WalkError : PySem.W.isClsIn K C_WalkError = true)
    (x_WalkError : K.lookup C_WalkError = some (excClassObj nm_WalkError qn_WalkError C_WalkError NN_WalkError bs_WalkError [.type "ValueError", .type "Exception", .type "BaseException", .type "object"] true sn_WalkError sb_WalkError ab_WalkError co_WalkError dd_WalkError m0_WalkError m1_WalkError m2_WalkError m3_WalkError m5_WalkError "ValueError.__new__"))
    (g_C_BadNumber : PySem.W.nsIn K mainGlobals "BadNumber" = some (some (.ref C_BadNumber)))
    (m_BadNumber_init : PySem.W.findIn K (.ref C_BadNumber) "__init__" = some (some (.ref f_BadNumber_init)))
    (i_BadNumber_init : PySem.W.isFn K (.ref f_BadNumber_init) = true)
    (l_BadNumber_init : K.lookup f_BadNumber_init = some ⟨oc_BadNumber_init, od_BadNumber_init, .func (PySem.W.fnOf "__init__" "BadNumber.__init__" (defArgs s_BadNumber_init) (defBody s_BadNumber_init) (defScope s_BadNumber_init) .none kV_BadNumber_init dc_BadNumber_init pm_BadNumber_init an_BadNumber_init cd_BadNumber_init ct_BadNumber_init), sl_BadNumber_init⟩)
    (c_BadNumber_init : PySem.W.codeIn K cd_BadNumber_init "BadNumber.__init__" = true)
    (k_BadNumber_init : PySem.W.keepIn K (.ref f_BadNumber_init) = true)
    (sa_BadNumber : PySem.W.findIn K (.ref C_BadNumber) "__setattr__" = some (some (.builtin "object.__setattr__")))
    (ex_BadNumber : PySem.W.subIn K (.ref C_BadNumber) (.type "BaseException") = some true)
    (ty_BadNumber : PySem.W.typeIn K (.ref C_BadNumber) = some (.type "type"))
    (kc_BadNumber : PySem.W.keepIn K (.ref C_BadNumber) = true)
    (ga_BadNumber : PySem.W.findIn K (.ref C_BadNumber) "__getattribute__" = some (some (.builtin "BaseException.__getattribute__")))
    (gg_BadNumber : PySem.W.findIn K (.ref C_BadNumber) "__getattr__" = some none)
    (hd_BadNumber : PySem.W.hasDictIn K C_BadNumber = true)
    (ic_BadNumber : PySem.W.isClsIn K C_BadNumber = true)
    (x_BadNumber : K.lookup C_BadNumber = some (excClassObj nm_BadNumber qn_BadNumber C_BadNumber NN_BadNumber bs_BadNumber [.ref C_WalkError, .type "ValueError", .type "Exception", .type "BaseException", .type "object"] true sn_BadNumber sb_BadNumber ab_BadNumber co_BadNumber dd_BadNumber m0_BadNumber m1_BadNumber m2_BadNumber m3_BadNumber m5_BadNumber "ValueError.__new__"))
    (na_BadNumber_value : PySem.W.findIn K (.ref C_BadNumber) "value" = some none)
    (g_C_BadPlace : PySem.W.nsIn K mainGlobals "BadPlace" = some (some (.ref C_BadPlace)))
    (m_BadPlace_init : PySem.W.findIn K (.ref C_BadPlace) "__init__" = some (some (.ref f_BadPlace_init)))
    (i_BadPlace_init : PySem.W.isFn K (.ref f_BadPlace_init) = true)
    (l_BadPlace_init : K.lookup f_BadPlace_init = some ⟨oc_BadPlace_init, od_BadPlace_init, .func (PySem.W.fnOf "__init__" "BadPlace.__init__" (defArgs s_BadPlace_init) (defBody s_BadPlace_init) (defScope s_BadPlace_init) .none kV_BadPlace_init dc_BadPlace_init pm_BadPlace_init an_BadPlace_init cd_BadPlace_init ct_BadPlace_init), sl_BadPlace_init⟩)
    (c_BadPlace_init : PySem.W.codeIn K cd_BadPlace_init "BadPlace.__init__" = true)
    (k_BadPlace_init : PySem.W.keepIn K (.ref f_BadPlace_init) = true)
    (sa_BadPlace : PySem.W.findIn K (.ref C_BadPlace) "__setattr__" = some (some (.builtin "object.__setattr__")))
    (ex_BadPlace : PySem.W.subIn K (.ref C_BadPlace) (.type "BaseException") = some true)
    (ty_BadPlace : PySem.W.typeIn K (.ref C_BadPlace) = some (.type "type"))
    (kc_BadPlace : PySem.W.keepIn K (.ref C_BadPlace) = true)
    (ga_BadPlace : PySem.W.findIn K (.ref C_BadPlace) "__getattribute__" = some (some (.builtin "BaseException.__getattribute__")))
    (gg_BadPlace : PySem.W.findIn K (.ref C_BadPlace) "__getattr__" = some none)
    (hd_BadPlace : PySem.W.hasDictIn K C_BadPlace = true)
    (ic_BadPlace : PySem.W.isClsIn K C_BadPlace = true)
    (x_BadPlace : K.lookup C_BadPlace = some (excClassObj nm_BadPlace qn_BadPlace C_BadPlace NN_BadPlace bs_BadPlace [.ref C_WalkError, .type "ValueError", .type "Exception", .type "BaseException", .type "object"] true sn_BadPlace sb_BadPlace ab_BadPlace co_BadPlace dd_BadPlace m0_BadPlace m1_BadPlace m2_BadPlace m3_BadPlace m5_BadPlace "ValueError.__new__"))
    (na_BadPlace_value : PySem.W.findIn K (.ref C_BadPlace) "value" = some none)
    (g_C_Uneven : PySem.W.nsIn K mainGlobals "Uneven" = some (some (.ref C_Uneven)))
    (m_Uneven_init : PySem.W.findIn K (.ref C_Uneven) "__init__" = some (some (.ref f_Uneven_init)))
    (i_Uneven_init : PySem.W.isFn K (.ref f_Uneven_init) = true)
    (l_Uneven_init : K.lookup f_Uneven_init = some ⟨oc_Uneven_init, od_Uneven_init, .func (PySem.W.fnOf "__init__" "Uneven.__init__" (defArgs s_Uneven_init) (defBody s_Uneven_init) (defScope s_Uneven_init) .none kV_Uneven_init dc_Uneven_init pm_Uneven_init an_Uneven_init cd_Uneven_init ct_Uneven_init), sl_Uneven_init⟩)
    (c_Uneven_init : PySem.W.codeIn K cd_Uneven_init "Uneven.__init__" = true)
    (k_Uneven_init : PySem.W.keepIn K (.ref f_Uneven_init) = true)
    (sa_Uneven : PySem.W.findIn K (.ref C_Uneven) "__setattr__" = some (some (.builtin "object.__setattr__")))
    (ex_Uneven : PySem.W.subIn K (.ref C_Uneven) (.type "BaseException") = some true)
    (ty_Uneven : PySem.W.typeIn K (.ref C_Uneven) = some (.type "type"))
    (kc_Uneven : PySem.W.keepIn K (.ref C_Uneven) = true)
    (ga_Uneven : PySem.W.findIn K (.ref C_Uneven) "__getattribute__" = some (some (.builtin "BaseException.__getattribute__")))
    (gg_Uneven : PySem.W.findIn K (.ref C_Uneven) "__getattr__" = some none)
    (hd_Uneven : PySem.W.hasDictIn K C_Uneven = true)
    (ic_Uneven : PySem.W.isClsIn K C_Uneven = true)
    (x_Uneven : K.lookup C_Uneven = some (excClassObj nm_Uneven qn_Uneven C_Uneven NN_Uneven bs_Uneven [.ref C_WalkError, .type "ValueError", .type "Exception", .type "BaseException", .type "object"] true sn_Uneven sb_Uneven ab_Uneven co_Uneven dd_Uneven m0_Uneven m1_Uneven m2_Uneven m3_Uneven m5_Uneven "ValueError.__new__"))
    (na_Uneven_first : PySem.W.findIn K (.ref C_Uneven) "first" = some none)
    (na_Uneven_second : PySem.W.findIn K (.ref C_Uneven) "second" = some none)
    (g_C_NotOnto : PySem.W.nsIn K mainGlobals "NotOnto" = some (some (.ref C_NotOnto)))
    (m_NotOnto_init : PySem.W.findIn K (.ref C_NotOnto) "__init__" = some (some (.ref f_NotOnto_init)))
    (i_NotOnto_init : PySem.W.isFn K (.ref f_NotOnto_init) = true)
    (l_NotOnto_init : K.lookup f_NotOnto_init = some ⟨oc_NotOnto_init, od_NotOnto_init, .func (PySem.W.fnOf "__init__" "NotOnto.__init__" (defArgs s_NotOnto_init) (defBody s_NotOnto_init) (defScope s_NotOnto_init) .none kV_NotOnto_init dc_NotOnto_init pm_NotOnto_init an_NotOnto_init cd_NotOnto_init ct_NotOnto_init), sl_NotOnto_init⟩)
    (c_NotOnto_init : PySem.W.codeIn K cd_NotOnto_init "NotOnto.__init__" = true)
    (k_NotOnto_init : PySem.W.keepIn K (.ref f_NotOnto_init) = true)
    (sa_NotOnto : PySem.W.findIn K (.ref C_NotOnto) "__setattr__" = some (some (.builtin "object.__setattr__")))
    (ex_NotOnto : PySem.W.subIn K (.ref C_NotOnto) (.type "BaseException") = some true)
    (ty_NotOnto : PySem.W.typeIn K (.ref C_NotOnto) = some (.type "type"))
    (kc_NotOnto : PySem.W.keepIn K (.ref C_NotOnto) = true)
    (ga_NotOnto : PySem.W.findIn K (.ref C_NotOnto) "__getattribute__" = some (some (.builtin "BaseException.__getattribute__")))
    (gg_NotOnto : PySem.W.findIn K (.ref C_NotOnto) "__getattr__" = some none)
    (hd_NotOnto : PySem.W.hasDictIn K C_NotOnto = true)
    (ic_NotOnto : PySem.W.isClsIn K C_NotOnto = true)
    (x_NotOnto : K.lookup C_NotOnto = some (excClassObj nm_NotOnto qn_NotOnto C_NotOnto NN_NotOnto bs_NotOnto [.ref C_WalkError, .type "ValueError", .type "Exception", .type "BaseException", .type "object"] true sn_NotOnto sb_NotOnto ab_NotOnto co_NotOnto dd_NotOnto m0_NotOnto m1_NotOnto m2_NotOnto m3_NotOnto m5_NotOnto "ValueError.__new__"))
    (na_NotOnto_number : PySem.W.findIn K (.ref C_NotOnto) "number" = some none)
    (g_C_Place : PySem.W.nsIn K mainGlobals "Place" = some (some (.ref C_Place)))
    (pg_Place : PySem.W.plainGet K C_Place Str.empty = true)
    (hd_Place : PySem.W.hasDictIn K C_Place = true)
    (po_Place : PySem.W.plainOver K C_Place = true)
    (sa_Place : PySem.W.findIn K (.ref C_Place) "__setattr__" = some (some (.builtin "object.__setattr__")))
    (ca_Place : PySem.W.findIn K (.ref C_Place) "__class__" = some (some (.builtin "object.__class__")))
    (cm_Place : PySem.W.mroIn K C_Place (.type "object") = some true)
    (na_Place_x : PySem.W.findIn K (.ref C_Place) "x" = some none)
    (na_Place_y : PySem.W.findIn K (.ref C_Place) "y" = some none)
    (na_Place_area : PySem.W.findIn K (.ref C_Place) "area" = some none)
    (m_Place_init : PySem.W.findIn K (.ref C_Place) "__init__" = some (some (.ref f_Place_init)))
    (i_Place_init : PySem.W.isFn K (.ref f_Place_init) = true)
    (l_Place_init : K.lookup f_Place_init = some ⟨oc_Place_init, od_Place_init, .func (PySem.W.fnOf "__init__" "Place.__init__" (defArgs s_Place_init) (defBody s_Place_init) (defScope s_Place_init) .none kV_Place_init dc_Place_init pm_Place_init an_Place_init cd_Place_init ct_Place_init), sl_Place_init⟩)
    (c_Place_init : PySem.W.codeIn K cd_Place_init "Place.__init__" = true)
    (k_Place_init : PySem.W.keepIn K (.ref f_Place_init) = true)
    (mk_Place : PySem.W.makesIn K C_Place = true)
    (kc_Place : PySem.W.keepIn K (.ref C_Place) = true)
    (m_Place_eq : PySem.W.findIn K (.ref C_Place) "__eq__" = some (some (.ref f_Place_eq)))
    (i_Place_eq : PySem.W.isFn K (.ref f_Place_eq) = true)
    (l_Place_eq : K.lookup f_Place_eq = some ⟨oc_Place_eq, od_Place_eq, .func (PySem.W.fnOf "__eq__" "Place.__eq__" (defArgs s_Place_eq) (defBody s_Place_eq) (defScope s_Place_eq) .none kV_Place_eq dc_Place_eq pm_Place_eq an_Place_eq cd_Place_eq ct_Place_eq), sl_Place_eq⟩)
    (c_Place_eq : PySem.W.codeIn K cd_Place_eq "Place.__eq__" = true)
    (k_Place_eq : PySem.W.keepIn K (.ref f_Place_eq) = true)
    (ne_Place : PySem.W.findIn K (.ref C_Place) "__ne__" = some (some (.builtin "object.__ne__")))
    (m_Place_mul : PySem.W.findIn K (.ref C_Place) "__mul__" = some (some (.ref f_Place_mul)))
    (i_Place_mul : PySem.W.isFn K (.ref f_Place_mul) = true)
    (l_Place_mul : K.lookup f_Place_mul = some ⟨oc_Place_mul, od_Place_mul, .func (PySem.W.fnOf "__mul__" "Place.__mul__" (defArgs s_Place_mul) (defBody s_Place_mul) (defScope s_Place_mul) .none kV_Place_mul dc_Place_mul pm_Place_mul an_Place_mul cd_Place_mul ct_Place_mul), sl_Place_mul⟩)
    (c_Place_mul : PySem.W.codeIn K cd_Place_mul "Place.__mul__" = true)
    (k_Place_mul : PySem.W.keepIn K (.ref f_Place_mul) = true)
    (sf_Place_Mult : PySem.W.selfFirst K C_Place = true)
    (ro_Place_Mult : PySem.W.findIn K (.ref C_Place) (PySem.dunderR (Operator.info .Mult).2) = some none)
    (m_Place_invert : PySem.W.findIn K (.ref C_Place) "__invert__" = some (some (.ref f_Place_invert)))
    (i_Place_invert : PySem.W.isFn K (.ref f_Place_invert) = true)
    (l_Place_invert : K.lookup f_Place_invert = some ⟨oc_Place_invert, od_Place_invert, .func (PySem.W.fnOf "__invert__" "Place.__invert__" (defArgs s_Place_invert) (defBody s_Place_invert) (defScope s_Place_invert) .none kV_Place_invert dc_Place_invert pm_Place_invert an_Place_invert cd_Place_invert ct_Place_invert), sl_Place_invert⟩)
    (c_Place_invert : PySem.W.codeIn K cd_Place_invert "Place.__invert__" = true)
    (k_Place_invert : PySem.W.keepIn K (.ref f_Place_invert) = true)
    (m_Place_power : PySem.W.findIn K (.ref C_Place) "power" = some (some (.ref f_Place_power)))
    (i_Place_power : PySem.W.isFn K (.ref f_Place_power) = true)
    (l_Place_power : K.lookup f_Place_power = some ⟨oc_Place_power, od_Place_power, .func (PySem.W.fnOf "power" "Place.power" (defArgs s_Place_power) (defBody s_Place_power) (defScope s_Place_power) .none kV_Place_power dc_Place_power pm_Place_power an_Place_power cd_Place_power ct_Place_power), sl_Place_power⟩)
    (c_Place_power : PySem.W.codeIn K cd_Place_power "Place.power" = true)
    (k_Place_power : PySem.W.keepIn K (.ref f_Place_power) = true)
    (m_Place_is_home : PySem.W.findIn K (.ref C_Place) "is_home" = some (some (.ref f_Place_is_home)))
    (i_Place_is_home : PySem.W.isFn K (.ref f_Place_is_home) = true)
    (l_Place_is_home : K.lookup f_Place_is_home = some ⟨oc_Place_is_home, od_Place_is_home, .func (PySem.W.fnOf "is_home" "Place.is_home" (defArgs s_Place_is_home) (defBody s_Place_is_home) (defScope s_Place_is_home) .none kV_Place_is_home dc_Place_is_home pm_Place_is_home an_Place_is_home cd_Place_is_home ct_Place_is_home), sl_Place_is_home⟩)
    (c_Place_is_home : PySem.W.codeIn K cd_Place_is_home "Place.is_home" = true)
    (k_Place_is_home : PySem.W.keepIn K (.ref f_Place_is_home) = true)
    (m_Place_lifted : PySem.W.findIn K (.ref C_Place) "lifted" = some (some (.ref f_Place_lifted)))
    (i_Place_lifted : PySem.W.isFn K (.ref f_Place_lifted) = true)
    (l_Place_lifted : K.lookup f_Place_lifted = some ⟨oc_Place_lifted, od_Place_lifted, .func (PySem.W.fnOf "lifted" "Place.lifted" (defArgs s_Place_lifted) (defBody s_Place_lifted) (defScope s_Place_lifted) .none kV_Place_lifted dc_Place_lifted pm_Place_lifted an_Place_lifted cd_Place_lifted ct_Place_lifted), sl_Place_lifted⟩)
    (c_Place_lifted : PySem.W.codeIn K cd_Place_lifted "Place.lifted" = true)
    (k_Place_lifted : PySem.W.keepIn K (.ref f_Place_lifted) = true)
    (m_Place_twist : PySem.W.findIn K (.ref C_Place) "twist" = some (some (.ref f_Place_twist)))
    (i_Place_twist : PySem.W.isFn K (.ref f_Place_twist) = true)
    (l_Place_twist : K.lookup f_Place_twist = some ⟨oc_Place_twist, od_Place_twist, .func (PySem.W.fnOf "twist" "Place.twist" (defArgs s_Place_twist) (defBody s_Place_twist) (defScope s_Place_twist) .none kV_Place_twist dc_Place_twist pm_Place_twist an_Place_twist cd_Place_twist ct_Place_twist), sl_Place_twist⟩)
    (c_Place_twist : PySem.W.codeIn K cd_Place_twist "Place.twist" = true)
    (k_Place_twist : PySem.W.keepIn K (.ref f_Place_twist) = true)
    (g_C_Renaming : PySem.W.nsIn K mainGlobals "Renaming" = some (some (.ref C_Renaming)))
    (pg_Renaming : PySem.W.plainGet K C_Renaming Str.empty = true)
    (hd_Renaming : PySem.W.hasDictIn K C_Renaming = true)
    (po_Renaming : PySem.W.plainOver K C_Renaming = true)
    (sa_Renaming : PySem.W.findIn K (.ref C_Renaming) "__setattr__" = some (some (.builtin "object.__setattr__")))
    (ca_Renaming : PySem.W.findIn K (.ref C_Renaming) "__class__" = some (some (.builtin "object.__class__")))
    (cm_Renaming : PySem.W.mroIn K C_Renaming (.type "object") = some true)
    (na_Renaming_east : PySem.W.findIn K (.ref C_Renaming) "east" = some none)
    (na_Renaming_north : PySem.W.findIn K (.ref C_Renaming) "north" = some none)
    (m_Renaming_init : PySem.W.findIn K (.ref C_Renaming) "__init__" = some (some (.ref f_Renaming_init)))
    (i_Renaming_init : PySem.W.isFn K (.ref f_Renaming_init) = true)
    (l_Renaming_init : K.lookup f_Renaming_init = some ⟨oc_Renaming_init, od_Renaming_init, .func (PySem.W.fnOf "__init__" "Renaming.__init__" (defArgs s_Renaming_init) (defBody s_Renaming_init) (defScope s_Renaming_init) .none kV_Renaming_init dc_Renaming_init pm_Renaming_init an_Renaming_init cd_Renaming_init ct_Renaming_init), sl_Renaming_init⟩)
    (c_Renaming_init : PySem.W.codeIn K cd_Renaming_init "Renaming.__init__" = true)
    (k_Renaming_init : PySem.W.keepIn K (.ref f_Renaming_init) = true)
    (mk_Renaming : PySem.W.makesIn K C_Renaming = true)
    (kc_Renaming : PySem.W.keepIn K (.ref C_Renaming) = true)
    (m_Renaming_eq : PySem.W.findIn K (.ref C_Renaming) "__eq__" = some (some (.ref f_Renaming_eq)))
    (i_Renaming_eq : PySem.W.isFn K (.ref f_Renaming_eq) = true)
    (l_Renaming_eq : K.lookup f_Renaming_eq = some ⟨oc_Renaming_eq, od_Renaming_eq, .func (PySem.W.fnOf "__eq__" "Renaming.__eq__" (defArgs s_Renaming_eq) (defBody s_Renaming_eq) (defScope s_Renaming_eq) .none kV_Renaming_eq dc_Renaming_eq pm_Renaming_eq an_Renaming_eq cd_Renaming_eq ct_Renaming_eq), sl_Renaming_eq⟩)
    (c_Renaming_eq : PySem.W.codeIn K cd_Renaming_eq "Renaming.__eq__" = true)
    (k_Renaming_eq : PySem.W.keepIn K (.ref f_Renaming_eq) = true)
    (ne_Renaming : PySem.W.findIn K (.ref C_Renaming) "__ne__" = some (some (.builtin "object.__ne__")))
    (m_Renaming_call : PySem.W.findIn K (.ref C_Renaming) "__call__" = some (some (.ref f_Renaming_call)))
    (i_Renaming_call : PySem.W.isFn K (.ref f_Renaming_call) = true)
    (l_Renaming_call : K.lookup f_Renaming_call = some ⟨oc_Renaming_call, od_Renaming_call, .func (PySem.W.fnOf "__call__" "Renaming.__call__" (defArgs s_Renaming_call) (defBody s_Renaming_call) (defScope s_Renaming_call) .none kV_Renaming_call dc_Renaming_call pm_Renaming_call an_Renaming_call cd_Renaming_call ct_Renaming_call), sl_Renaming_call⟩)
    (c_Renaming_call : PySem.W.codeIn K cd_Renaming_call "Renaming.__call__" = true)
    (k_Renaming_call : PySem.W.keepIn K (.ref f_Renaming_call) = true)
    (m_Renaming_mul : PySem.W.findIn K (.ref C_Renaming) "__mul__" = some (some (.ref f_Renaming_mul)))
    (i_Renaming_mul : PySem.W.isFn K (.ref f_Renaming_mul) = true)
    (l_Renaming_mul : K.lookup f_Renaming_mul = some ⟨oc_Renaming_mul, od_Renaming_mul, .func (PySem.W.fnOf "__mul__" "Renaming.__mul__" (defArgs s_Renaming_mul) (defBody s_Renaming_mul) (defScope s_Renaming_mul) .none kV_Renaming_mul dc_Renaming_mul pm_Renaming_mul an_Renaming_mul cd_Renaming_mul ct_Renaming_mul), sl_Renaming_mul⟩)
    (c_Renaming_mul : PySem.W.codeIn K cd_Renaming_mul "Renaming.__mul__" = true)
    (k_Renaming_mul : PySem.W.keepIn K (.ref f_Renaming_mul) = true)
    (sf_Renaming_Mult : PySem.W.selfFirst K C_Renaming = true)
    (ro_Renaming_Mult : PySem.W.findIn K (.ref C_Renaming) (PySem.dunderR (Operator.info .Mult).2) = some none)
    (m_Renaming_invert : PySem.W.findIn K (.ref C_Renaming) "__invert__" = some (some (.ref f_Renaming_invert)))
    (i_Renaming_invert : PySem.W.isFn K (.ref f_Renaming_invert) = true)
    (l_Renaming_invert : K.lookup f_Renaming_invert = some ⟨oc_Renaming_invert, od_Renaming_invert, .func (PySem.W.fnOf "__invert__" "Renaming.__invert__" (defArgs s_Renaming_invert) (defBody s_Renaming_invert) (defScope s_Renaming_invert) .none kV_Renaming_invert dc_Renaming_invert pm_Renaming_invert an_Renaming_invert cd_Renaming_invert ct_Renaming_invert), sl_Renaming_invert⟩)
    (c_Renaming_invert : PySem.W.codeIn K cd_Renaming_invert "Renaming.__invert__" = true)
    (k_Renaming_invert : PySem.W.keepIn K (.ref f_Renaming_invert) = true)
    (m_Renaming_factor : PySem.W.findIn K (.ref C_Renaming) "factor" = some (some (.ref f_Renaming_factor)))
    (i_Renaming_factor : PySem.W.isFn K (.ref f_Renaming_factor) = true)
    (l_Renaming_factor : K.lookup f_Renaming_factor = some ⟨oc_Renaming_factor, od_Renaming_factor, .func (PySem.W.fnOf "factor" "Renaming.factor" (defArgs s_Renaming_factor) (defBody s_Renaming_factor) (defScope s_Renaming_factor) .none kV_Renaming_factor dc_Renaming_factor pm_Renaming_factor an_Renaming_factor cd_Renaming_factor ct_Renaming_factor), sl_Renaming_factor⟩)
    (c_Renaming_factor : PySem.W.codeIn K cd_Renaming_factor "Renaming.factor" = true)
    (k_Renaming_factor : PySem.W.keepIn K (.ref f_Renaming_factor) = true)
    (m_Renaming_power : PySem.W.findIn K (.ref C_Renaming) "power" = some (some (.ref f_Renaming_power)))
    (i_Renaming_power : PySem.W.isFn K (.ref f_Renaming_power) = true)
    (l_Renaming_power : K.lookup f_Renaming_power = some ⟨oc_Renaming_power, od_Renaming_power, .func (PySem.W.fnOf "power" "Renaming.power" (defArgs s_Renaming_power) (defBody s_Renaming_power) (defScope s_Renaming_power) .none kV_Renaming_power dc_Renaming_power pm_Renaming_power an_Renaming_power cd_Renaming_power ct_Renaming_power), sl_Renaming_power⟩)
    (c_Renaming_power : PySem.W.codeIn K cd_Renaming_power "Renaming.power" = true)
    (k_Renaming_power : PySem.W.keepIn K (.ref f_Renaming_power) = true)
    (m_Renaming_order : PySem.W.findIn K (.ref C_Renaming) "order" = some (some (.ref f_Renaming_order)))
    (i_Renaming_order : PySem.W.isFn K (.ref f_Renaming_order) = true)
    (l_Renaming_order : K.lookup f_Renaming_order = some ⟨oc_Renaming_order, od_Renaming_order, .func (PySem.W.fnOf "order" "Renaming.order" (defArgs s_Renaming_order) (defBody s_Renaming_order) (defScope s_Renaming_order) .none kV_Renaming_order dc_Renaming_order pm_Renaming_order an_Renaming_order cd_Renaming_order ct_Renaming_order), sl_Renaming_order⟩)
    (c_Renaming_order : PySem.W.codeIn K cd_Renaming_order "Renaming.order" = true)
    (k_Renaming_order : PySem.W.keepIn K (.ref f_Renaming_order) = true)
    (m_Renaming_index : PySem.W.findIn K (.ref C_Renaming) "index" = some (some (.ref f_Renaming_index)))
    (i_Renaming_index : PySem.W.isFn K (.ref f_Renaming_index) = true)
    (l_Renaming_index : K.lookup f_Renaming_index = some ⟨oc_Renaming_index, od_Renaming_index, .func (PySem.W.fnOf "index" "Renaming.index" (defArgs s_Renaming_index) (defBody s_Renaming_index) (defScope s_Renaming_index) .none kV_Renaming_index dc_Renaming_index pm_Renaming_index an_Renaming_index cd_Renaming_index ct_Renaming_index), sl_Renaming_index⟩)
    (c_Renaming_index : PySem.W.codeIn K cd_Renaming_index "Renaming.index" = true)
    (k_Renaming_index : PySem.W.keepIn K (.ref f_Renaming_index) = true)
    (m_Renaming_keeps_steps : PySem.W.findIn K (.ref C_Renaming) "keeps_steps" = some (some (.ref f_Renaming_keeps_steps)))
    (i_Renaming_keeps_steps : PySem.W.isFn K (.ref f_Renaming_keeps_steps) = true)
    (l_Renaming_keeps_steps : K.lookup f_Renaming_keeps_steps = some ⟨oc_Renaming_keeps_steps, od_Renaming_keeps_steps, .func (PySem.W.fnOf "keeps_steps" "Renaming.keeps_steps" (defArgs s_Renaming_keeps_steps) (defBody s_Renaming_keeps_steps) (defScope s_Renaming_keeps_steps) .none kV_Renaming_keeps_steps dc_Renaming_keeps_steps pm_Renaming_keeps_steps an_Renaming_keeps_steps cd_Renaming_keeps_steps ct_Renaming_keeps_steps), sl_Renaming_keeps_steps⟩)
    (c_Renaming_keeps_steps : PySem.W.codeIn K cd_Renaming_keeps_steps "Renaming.keeps_steps" = true)
    (k_Renaming_keeps_steps : PySem.W.keepIn K (.ref f_Renaming_keeps_steps) = true)
    (cn : PySem.W.specialIn K (.builtin "object.__class__") "__get__" = some (some (.builtin "getset_descriptor.__get__")))
    (ct : PySem.W.takesIn K (.builtin "object.__class__") = some true)
    (io_Place_int : PySem.W.kitOne K (.ref C_Place) (.type "int") = some false)
    (io_Place_bool : PySem.W.kitOne K (.ref C_Place) (.type "bool") = some false)
    (is_NoneType_Place : PySem.W.kitOne K (.type "NoneType") (.ref C_Place) = some false)
    (sb_NoneType_Place : PySem.W.subIn K (.type "NoneType") (.ref C_Place) = some false)
    (is_bool_Place : PySem.W.kitOne K (.type "bool") (.ref C_Place) = some false)
    (sb_bool_Place : PySem.W.subIn K (.type "bool") (.ref C_Place) = some false)
    (is_int_Place : PySem.W.kitOne K (.type "int") (.ref C_Place) = some false)
    (sb_int_Place : PySem.W.subIn K (.type "int") (.ref C_Place) = some false)
    (is_str_Place : PySem.W.kitOne K (.type "str") (.ref C_Place) = some false)
    (sb_str_Place : PySem.W.subIn K (.type "str") (.ref C_Place) = some false)
    (is_list_Place : PySem.W.kitOne K (.type "list") (.ref C_Place) = some false)
    (sb_list_Place : PySem.W.subIn K (.type "list") (.ref C_Place) = some false)
    (is_tuple_Place : PySem.W.kitOne K (.type "tuple") (.ref C_Place) = some false)
    (sb_tuple_Place : PySem.W.subIn K (.type "tuple") (.ref C_Place) = some false)
    (is_dict_Place : PySem.W.kitOne K (.type "dict") (.ref C_Place) = some false)
    (sb_dict_Place : PySem.W.subIn K (.type "dict") (.ref C_Place) = some false)
    (ip_Place_Renaming : PySem.W.kitOne K (.ref C_Place) (.ref C_Renaming) = some false)
    (sp_Place_Renaming : PySem.W.subIn K (.ref C_Place) (.ref C_Renaming) = some false)
    (io_Renaming_int : PySem.W.kitOne K (.ref C_Renaming) (.type "int") = some false)
    (io_Renaming_bool : PySem.W.kitOne K (.ref C_Renaming) (.type "bool") = some false)
    (is_NoneType_Renaming : PySem.W.kitOne K (.type "NoneType") (.ref C_Renaming) = some false)
    (sb_NoneType_Renaming : PySem.W.subIn K (.type "NoneType") (.ref C_Renaming) = some false)
    (is_bool_Renaming : PySem.W.kitOne K (.type "bool") (.ref C_Renaming) = some false)
    (sb_bool_Renaming : PySem.W.subIn K (.type "bool") (.ref C_Renaming) = some false)
    (is_int_Renaming : PySem.W.kitOne K (.type "int") (.ref C_Renaming) = some false)
    (sb_int_Renaming : PySem.W.subIn K (.type "int") (.ref C_Renaming) = some false)
    (is_str_Renaming : PySem.W.kitOne K (.type "str") (.ref C_Renaming) = some false)
    (sb_str_Renaming : PySem.W.subIn K (.type "str") (.ref C_Renaming) = some false)
    (is_list_Renaming : PySem.W.kitOne K (.type "list") (.ref C_Renaming) = some false)
    (sb_list_Renaming : PySem.W.subIn K (.type "list") (.ref C_Renaming) = some false)
    (is_tuple_Renaming : PySem.W.kitOne K (.type "tuple") (.ref C_Renaming) = some false)
    (sb_tuple_Renaming : PySem.W.subIn K (.type "tuple") (.ref C_Renaming) = some false)
    (is_dict_Renaming : PySem.W.kitOne K (.type "dict") (.ref C_Renaming) = some false)
    (sb_dict_Renaming : PySem.W.subIn K (.type "dict") (.ref C_Renaming) = some false)
    (ip_Renaming_Place : PySem.W.kitOne K (.ref C_Renaming) (.ref C_Place) = some false)
    (sp_Renaming_Place : PySem.W.subIn K (.ref C_Renaming) (.ref C_Place) = some false)
    (em_BadNumber_BadPlace : PySem.W.exmOne K (.ref C_BadNumber) (.ref C_BadPlace) = some false)
    (em_BadPlace_BadPlace : PySem.W.exmOne K (.ref C_BadPlace) (.ref C_BadPlace) = some true)
    (em_NotOnto_BadPlace : PySem.W.exmOne K (.ref C_NotOnto) (.ref C_BadPlace) = some false)
    (em_Uneven_BadPlace : PySem.W.exmOne K (.ref C_Uneven) (.ref C_BadPlace) = some false)
    (em_BadNumber_Uneven : PySem.W.exmOne K (.ref C_BadNumber) (.ref C_Uneven) = some false)
    (em_BadPlace_Uneven : PySem.W.exmOne K (.ref C_BadPlace) (.ref C_Uneven) = some false)
    (em_NotOnto_Uneven : PySem.W.exmOne K (.ref C_NotOnto) (.ref C_Uneven) = some false)
    (em_Uneven_Uneven : PySem.W.exmOne K (.ref C_Uneven) (.ref C_Uneven) = some true)
    (n_NotImplemented : PySem.W.nsIn K mainGlobals "NotImplemented" = some none)
    (n_abs : PySem.W.nsIn K mainGlobals "abs" = some none)
    (n_all : PySem.W.nsIn K mainGlobals "all" = some none)
    (n_bool : PySem.W.nsIn K mainGlobals "bool" = some none)
    (n_int : PySem.W.nsIn K mainGlobals "int" = some none)
    (n_isinstance : PySem.W.nsIn K mainGlobals "isinstance" = some none)
    (n_len : PySem.W.nsIn K mainGlobals "len" = some none)
    (n_list : PySem.W.nsIn K mainGlobals "list" = some none)
    (n_range : PySem.W.nsIn K mainGlobals "range" = some none)
    (n_tuple : PySem.W.nsIn K mainGlobals "tuple" = some none)
    (n_zip : PySem.W.nsIn K mainGlobals "zip" = some none)
    (gc_FINITE_ORDERS : PySem.W.nsIn K mainGlobals "FINITE_ORDERS" = some (some (.ref k_FINITE_ORDERS)))
    (lc_FINITE_ORDERS : K.lookup k_FINITE_ORDERS = some ⟨.type "tuple", od_FINITE_ORDERS, .seq its_FINITE_ORDERS n_FINITE_ORDERS, sl_FINITE_ORDERS⟩)
    (vc_FINITE_ORDERS : its_FINITE_ORDERS.toList.map absV = ([V.int 1, V.int 2, V.int 3, V.int 4, V.int 6]).map some)
    (gc_MOST_TIMES : PySem.W.nsIn K mainGlobals "MOST_TIMES" = some (some (.int 1000 tk_MOST_TIMES))) {goal : Prop} (kk : ∀ T : Tx K mg, T.a_law = fa → T.pt_l_refused = pt_l_refused → goal) : goal := by
  refine kk { a__wall := (f__wall), d__wall := (_), F__wall := (fun_mk (st := s__wall) l__wall c__wall k__wall), b__wall := ((fun_mk (st := s__wall) l__wall c__wall k__wall).binds (ps := P__wall) fun _ _ _ _ _ _ us hl => match us, hl with | [_], _ => rfl), g__wall := (PySem.W.mg_of X G g__wall), a_is_integer := (f_is_integer), d_is_integer := (_), F_is_integer := (fun_mk (st := s_is_integer) l_is_integer c_is_integer k_is_integer), b_is_integer := ((fun_mk (st := s_is_integer) l_is_integer c_is_integer k_is_integer).binds (ps := P_is_integer) fun _ _ _ _ _ _ us hl => match us, hl with | [_], _ => rfl), g_is_integer := (PySem.W.mg_of X G g_is_integer), a_check_integer := (f_check_integer), d_check_integer := (_), F_check_integer := (fun_mk (st := s_check_integer) l_check_integer c_check_integer k_check_integer), b_check_integer := ((fun_mk (st := s_check_integer) l_check_integer c_check_integer k_check_integer).binds (ps := P_check_integer) fun _ _ _ _ _ _ us hl => match us, hl with | [_], _ => rfl), g_check_integer := (PySem.W.mg_of X G g_check_integer), a_check_place := (f_check_place), d_check_place := (_), F_check_place := (fun_mk (st := s_check_place) l_check_place c_check_place k_check_place), b_check_place := ((fun_mk (st := s_check_place) l_check_place c_check_place k_check_place).binds (ps := P_check_place) fun _ _ _ _ _ _ us hl => match us, hl with | [_], _ => rfl), g_check_place := (PySem.W.mg_of X G g_check_place), a_check_places := (f_check_places), d_check_places := (_), F_check_places := (fun_mk (st := s_check_places) l_check_places c_check_places k_check_places), b_check_places := ((fun_mk (st := s_check_places) l_check_places c_check_places k_check_places).binds (ps := P_check_places) fun _ _ _ _ _ _ us hl => match us, hl with | [_], _ => rfl), g_check_places := (PySem.W.mg_of X G g_check_places), a_bezout := (f_bezout), d_bezout := (_), F_bezout := (fun_mk (st := s_bezout) l_bezout c_bezout k_bezout), b_bezout := ((fun_mk (st := s_bezout) l_bezout c_bezout k_bezout).binds (ps := P_bezout) fun _ _ _ _ _ _ us hl => match us, hl with | [_, _], _ => rfl), g_bezout := (PySem.W.mg_of X G g_bezout), a_image_figures := (f_image_figures), d_image_figures := (_), F_image_figures := (fun_mk (st := s_image_figures) l_image_figures c_image_figures k_image_figures), b_image_figures := ((fun_mk (st := s_image_figures) l_image_figures c_image_figures k_image_figures).binds (ps := P_image_figures) fun _ _ _ _ _ _ us hl => match us, hl with | [_, _, _], _ => rfl), g_image_figures := (PySem.W.mg_of X G g_image_figures), a_image_by := (f_image_by), d_image_by := (_), F_image_by := (fun_mk (st := s_image_by) l_image_by c_image_by k_image_by), b_image_by := ((fun_mk (st := s_image_by) l_image_by c_image_by k_image_by).binds (ps := P_image_by) fun _ _ _ _ _ _ us hl => match us, hl with | [_, _], _ => rfl), g_image_by := (PySem.W.mg_of X G g_image_by), a_source_over := (f_source_over), d_source_over := (_), F_source_over := (fun_mk (st := s_source_over) l_source_over c_source_over k_source_over), b_source_over := ((fun_mk (st := s_source_over) l_source_over c_source_over k_source_over).binds (ps := P_source_over) fun _ _ _ _ _ _ us hl => match us, hl with | [_, _, _], _ => rfl), g_source_over := (PySem.W.mg_of X G g_source_over), a_check_onto := (f_check_onto), d_check_onto := (_), F_check_onto := (fun_mk (st := s_check_onto) l_check_onto c_check_onto k_check_onto), b_check_onto := ((fun_mk (st := s_check_onto) l_check_onto c_check_onto k_check_onto).binds (ps := P_check_onto) fun _ _ _ _ _ _ us hl => match us, hl with | [_], _ => rfl), g_check_onto := (PySem.W.mg_of X G g_check_onto), a_same_names := (f_same_names), d_same_names := (_), F_same_names := (fun_mk (st := s_same_names) l_same_names c_same_names k_same_names), b_same_names := ((fun_mk (st := s_same_names) l_same_names c_same_names k_same_names).binds (ps := P_same_names) fun _ _ _ _ _ _ us hl => match us, hl with | [], _ => rfl), g_same_names := (PySem.W.mg_of X G g_same_names), a_list_key := (f_list_key), d_list_key := (_), F_list_key := (fun_mk (st := s_list_key) l_list_key c_list_key k_list_key), b_list_key := ((fun_mk (st := s_list_key) l_list_key c_list_key k_list_key).binds (ps := P_list_key) fun _ _ _ _ _ _ us hl => match us, hl with | [_], _ => rfl), g_list_key := (PySem.W.mg_of X G g_list_key), a_alike := (f_alike), d_alike := (_), F_alike := (fun_mk (st := s_alike) l_alike c_alike k_alike), b_alike := ((fun_mk (st := s_alike) l_alike c_alike k_alike).binds (ps := P_alike) fun _ _ _ _ _ _ us hl => match us, hl with | [_, _], _ => rfl), g_alike := (PySem.W.mg_of X G g_alike), a_lot_key := (f_lot_key), d_lot_key := (_), F_lot_key := (fun_mk (st := s_lot_key) l_lot_key c_lot_key k_lot_key), b_lot_key := ((fun_mk (st := s_lot_key) l_lot_key c_lot_key k_lot_key).binds (ps := P_lot_key) fun _ _ _ _ _ _ us hl => match us, hl with | [_], _ => rfl), g_lot_key := (PySem.W.mg_of X G g_lot_key), a_alike_lots := (f_alike_lots), d_alike_lots := (_), F_alike_lots := (fun_mk (st := s_alike_lots) l_alike_lots c_alike_lots k_alike_lots), b_alike_lots := ((fun_mk (st := s_alike_lots) l_alike_lots c_alike_lots k_alike_lots).binds (ps := P_alike_lots) fun _ _ _ _ _ _ us hl => match us, hl with | [_, _], _ => rfl), g_alike_lots := (PySem.W.mg_of X G g_alike_lots), a_check_both := (f_check_both), d_check_both := (_), F_check_both := (fun_mk (st := s_check_both) l_check_both c_check_both k_check_both), b_check_both := ((fun_mk (st := s_check_both) l_check_both c_check_both k_check_both).binds (ps := P_check_both) fun _ _ _ _ _ _ us hl => match us, hl with | [_, _], _ => rfl), g_check_both := (PySem.W.mg_of X G g_check_both), a_renaming_between := (f_renaming_between), d_renaming_between := (_), F_renaming_between := (fun_mk (st := s_renaming_between) l_renaming_between c_renaming_between k_renaming_between), b_renaming_between := ((fun_mk (st := s_renaming_between) l_renaming_between c_renaming_between k_renaming_between).binds (ps := P_renaming_between) fun _ _ _ _ _ _ us hl => match us, hl with | [_, _], _ => rfl), g_renaming_between := (PySem.W.mg_of X G g_renaming_between), a_lot_form := (f_lot_form), d_lot_form := (_), F_lot_form := (fun_mk (st := s_lot_form) l_lot_form c_lot_form k_lot_form), b_lot_form := ((fun_mk (st := s_lot_form) l_lot_form c_lot_form k_lot_form).binds (ps := P_lot_form) fun _ _ _ _ _ _ us hl => match us, hl with | [_], _ => rfl), g_lot_form := (PySem.W.mg_of X G g_lot_form), a_orders := (f_orders), d_orders := (_), F_orders := (fun_mk (st := s_orders) l_orders c_orders k_orders), b_orders := ((fun_mk (st := s_orders) l_orders c_orders k_orders).binds (ps := P_orders) fun _ _ _ _ _ _ us hl => match us, hl with | [_], _ => rfl), g_orders := (PySem.W.mg_of X G g_orders), a_list_form := (f_list_form), d_list_form := (_), F_list_form := (fun_mk (st := s_list_form) l_list_form c_list_form k_list_form), b_list_form := ((fun_mk (st := s_list_form) l_list_form c_list_form k_list_form).binds (ps := P_list_form) fun _ _ _ _ _ _ us hl => match us, hl with | [_], _ => rfl), g_list_form := (PySem.W.mg_of X G g_list_form), a_level_renamings := (f_level_renamings), d_level_renamings := (_), F_level_renamings := (fun_mk (st := s_level_renamings) l_level_renamings c_level_renamings k_level_renamings), b_level_renamings := ((fun_mk (st := s_level_renamings) l_level_renamings c_level_renamings k_level_renamings).binds (ps := P_level_renamings) fun _ _ _ _ _ _ us hl => match us, hl with | [_], _ => rfl), g_level_renamings := (PySem.W.mg_of X G g_level_renamings), a_mirrored_pair := (f_mirrored_pair), d_mirrored_pair := (_), F_mirrored_pair := (fun_mk (st := s_mirrored_pair) l_mirrored_pair c_mirrored_pair k_mirrored_pair), b_mirrored_pair := ((fun_mk (st := s_mirrored_pair) l_mirrored_pair c_mirrored_pair k_mirrored_pair).binds (ps := P_mirrored_pair) fun _ _ _ _ _ _ us hl => match us, hl with | [_, _, _, _], _ => rfl), g_mirrored_pair := (PySem.W.mg_of X G g_mirrored_pair), a_settled := (f_settled), d_settled := (_), F_settled := (fun_mk (st := s_settled) l_settled c_settled k_settled), b_settled := ((fun_mk (st := s_settled) l_settled c_settled k_settled).binds (ps := P_settled) fun _ _ _ _ _ _ us hl => match us, hl with | [_, _, _], _ => rfl), g_settled := (PySem.W.mg_of X G g_settled), a_view_times := (f_view_times), d_view_times := (_), F_view_times := (fun_mk (st := s_view_times) l_view_times c_view_times k_view_times), b_view_times := ((fun_mk (st := s_view_times) l_view_times c_view_times k_view_times).binds (ps := P_view_times) fun _ _ _ _ _ _ us hl => match us, hl with | [_, _], _ => rfl), g_view_times := (PySem.W.mg_of X G g_view_times), a_l_begin := (f_l_begin), d_l_begin := (_), F_l_begin := (fun_mk (st := s_l_begin) l_l_begin c_l_begin k_l_begin), b_l_begin := ((fun_mk (st := s_l_begin) l_l_begin c_l_begin k_l_begin).binds (ps := P_l_begin) fun _ _ _ _ _ _ us hl => match us, hl with | [_], _ => rfl), g_l_begin := (PySem.W.mg_of X G g_l_begin), a_l_draw := (f_l_draw), d_l_draw := (_), F_l_draw := (fun_mk (st := s_l_draw) l_l_draw c_l_draw k_l_draw), b_l_draw := ((fun_mk (st := s_l_draw) l_l_draw c_l_draw k_l_draw).binds (ps := P_l_draw) fun _ _ _ _ _ _ us hl => match us, hl with | [_, _], _ => rfl), g_l_draw := (PySem.W.mg_of X G g_l_draw), a_l_pick := (f_l_pick), d_l_pick := (_), F_l_pick := (fun_mk (st := s_l_pick) l_l_pick c_l_pick k_l_pick), b_l_pick := ((fun_mk (st := s_l_pick) l_l_pick c_l_pick k_l_pick).binds (ps := P_l_pick) fun _ _ _ _ _ _ us hl => match us, hl with | [_, _], _ => rfl), g_l_pick := (PySem.W.mg_of X G g_l_pick), a_l_small := (f_l_small), d_l_small := (_), F_l_small := (fun_mk (st := s_l_small) l_l_small c_l_small k_l_small), b_l_small := ((fun_mk (st := s_l_small) l_l_small c_l_small k_l_small).binds (ps := P_l_small) fun _ _ _ _ _ _ us hl => match us, hl with | [_], _ => rfl), g_l_small := (PySem.W.mg_of X G g_l_small), a_l_join := (f_l_join), d_l_join := (_), F_l_join := (fun_mk (st := s_l_join) l_l_join c_l_join k_l_join), b_l_join := ((fun_mk (st := s_l_join) l_l_join c_l_join k_l_join).binds (ps := P_l_join) fun _ _ _ _ _ _ us hl => match us, hl with | [_, _], _ => rfl), g_l_join := (PySem.W.mg_of X G g_l_join), a_l_times := (f_l_times), d_l_times := (_), F_l_times := (fun_mk (st := s_l_times) l_l_times c_l_times k_l_times), b_l_times := ((fun_mk (st := s_l_times) l_l_times c_l_times k_l_times).binds (ps := P_l_times) fun _ _ _ _ _ _ us hl => match us, hl with | [_, _], _ => rfl), g_l_times := (PySem.W.mg_of X G g_l_times), a_l_place := (f_l_place), d_l_place := (_), F_l_place := (fun_mk (st := s_l_place) l_l_place c_l_place k_l_place), b_l_place := ((fun_mk (st := s_l_place) l_l_place c_l_place k_l_place).binds (ps := P_l_place) fun _ _ _ _ _ _ us hl => match us, hl with | [_], _ => rfl), g_l_place := (PySem.W.mg_of X G g_l_place), a_l_whole := (f_l_whole), d_l_whole := (_), F_l_whole := (fun_mk (st := s_l_whole) l_l_whole c_l_whole k_l_whole), b_l_whole := ((fun_mk (st := s_l_whole) l_l_whole c_l_whole k_l_whole).binds (ps := P_l_whole) fun _ _ _ _ _ _ us hl => match us, hl with | [_], _ => rfl), g_l_whole := (PySem.W.mg_of X G g_l_whole), a_l_row := (f_l_row), d_l_row := (_), F_l_row := (fun_mk (st := s_l_row) l_l_row c_l_row k_l_row), b_l_row := ((fun_mk (st := s_l_row) l_l_row c_l_row k_l_row).binds (ps := P_l_row) fun _ _ _ _ _ _ us hl => match us, hl with | [_], _ => rfl), g_l_row := (PySem.W.mg_of X G g_l_row), a_l_twist := (f_l_twist), d_l_twist := (_), F_l_twist := (fun_mk (st := s_l_twist) l_l_twist c_l_twist k_l_twist), b_l_twist := ((fun_mk (st := s_l_twist) l_l_twist c_l_twist k_l_twist).binds (ps := P_l_twist) fun _ _ _ _ _ _ us hl => match us, hl with | [_, _], _ => rfl), g_l_twist := (PySem.W.mg_of X G g_l_twist), a_l_renamed := (f_l_renamed), d_l_renamed := (_), F_l_renamed := (fun_mk (st := s_l_renamed) l_l_renamed c_l_renamed k_l_renamed), b_l_renamed := ((fun_mk (st := s_l_renamed) l_l_renamed c_l_renamed k_l_renamed).binds (ps := P_l_renamed) fun _ _ _ _ _ _ us hl => match us, hl with | [_, _], _ => rfl), g_l_renamed := (PySem.W.mg_of X G g_l_renamed), a_l_onto := (f_l_onto), d_l_onto := (_), F_l_onto := (fun_mk (st := s_l_onto) l_l_onto c_l_onto k_l_onto), b_l_onto := ((fun_mk (st := s_l_onto) l_l_onto c_l_onto k_l_onto).binds (ps := P_l_onto) fun _ _ _ _ _ _ us hl => match us, hl with | [_], _ => rfl), g_l_onto := (PySem.W.mg_of X G g_l_onto), a_l_six := (f_l_six), d_l_six := (_), F_l_six := (fun_mk (st := s_l_six) l_l_six c_l_six k_l_six), b_l_six := ((fun_mk (st := s_l_six) l_l_six c_l_six k_l_six).binds (ps := P_l_six) fun _ _ _ _ _ _ us hl => match us, hl with | [_], _ => rfl), g_l_six := (PySem.W.mg_of X G g_l_six), a_l_mid := (f_l_mid), d_l_mid := (_), F_l_mid := (fun_mk (st := s_l_mid) l_l_mid c_l_mid k_l_mid), b_l_mid := ((fun_mk (st := s_l_mid) l_l_mid c_l_mid k_l_mid).binds (ps := P_l_mid) fun _ _ _ _ _ _ us hl => match us, hl with | [_], _ => rfl), g_l_mid := (PySem.W.mg_of X G g_l_mid), a_l_list := (f_l_list), d_l_list := (_), F_l_list := (fun_mk (st := s_l_list) l_l_list c_l_list k_l_list), b_l_list := ((fun_mk (st := s_l_list) l_l_list c_l_list k_l_list).binds (ps := P_l_list) fun _ _ _ _ _ _ us hl => match us, hl with | [_, _], _ => rfl), g_l_list := (PySem.W.mg_of X G g_l_list), a_l_how := (f_l_how), d_l_how := (_), F_l_how := (fun_mk (st := s_l_how) l_l_how c_l_how k_l_how), b_l_how := ((fun_mk (st := s_l_how) l_l_how c_l_how k_l_how).binds (ps := P_l_how) fun _ _ _ _ _ _ us hl => match us, hl with | [_], _ => rfl), g_l_how := (PySem.W.mg_of X G g_l_how), a_l_refused := (f_l_refused), d_l_refused := (_), cc_l_refused := (cc_l_refused), pt_l_refused := (pt_l_refused), h_l_refused := (h_l_refused), n_l_refused := (n_l_refused), FC_l_refused := (⟨⟨_, _, _, _, _, _, _, _, rfl, l_l_refused, c_l_refused⟩, k_l_refused⟩), F_l_refused := (fun_mk (st := s_l_refused) l_l_refused c_l_refused k_l_refused), b_l_refused := ((fun_mk (st := s_l_refused) l_l_refused c_l_refused k_l_refused).binds (ps := P_l_refused) fun _ _ _ _ _ _ us hl => match us, hl with | [_, _], _ => rfl), g_l_refused := (PySem.W.mg_of X G g_l_refused), a_law := (f_law), d_law := (_), F_law := (fun_mk (st := s_law) l_law c_law k_law), b_law := ((fun_mk (st := s_law) l_law c_law k_law).binds (ps := P_law) fun _ _ _ _ _ _ us hl => match us, hl with | [_], _ => rfl), g_law := (PySem.W.mg_of X G g_law), C_WalkError := (C_WalkError), g_C_WalkError := (PySem.W.mg_of X G g_C_WalkError), X_WalkError := (⟨⟨nm_WalkError, qn_WalkError, NN_WalkError, bs_WalkError, _, sn_WalkError, sb_WalkError, ab_WalkError, co_WalkError, dd_WalkError, m0_WalkError, m1_WalkError, m2_WalkError, m3_WalkError, m5_WalkError, x_WalkError, rfl⟩, sa_WalkError, ex_WalkError, ty_WalkError, kc_WalkError⟩), Y_WalkError := (⟨ga_WalkError, gg_WalkError, ex_WalkError, hd_WalkError⟩), C_BadNumber := (C_BadNumber), g_C_BadNumber := (PySem.W.mg_of X G g_C_BadNumber), a_BadNumber_init := (f_BadNumber_init), d_BadNumber_init := (_), F_BadNumber_init := (fun_mk (st := s_BadNumber_init) l_BadNumber_init c_BadNumber_init k_BadNumber_init), b_BadNumber_init := ((fun_mk (st := s_BadNumber_init) l_BadNumber_init c_BadNumber_init k_BadNumber_init).binds (ps := P_BadNumber_init) fun _ _ _ _ _ _ us hl => match us, hl with | [_, _], _ => rfl), X_BadNumber := (⟨⟨nm_BadNumber, qn_BadNumber, NN_BadNumber, bs_BadNumber, _, sn_BadNumber, sb_BadNumber, ab_BadNumber, co_BadNumber, dd_BadNumber, m0_BadNumber, m1_BadNumber, m2_BadNumber, m3_BadNumber, m5_BadNumber, x_BadNumber, rfl⟩, sa_BadNumber, ex_BadNumber, ty_BadNumber, kc_BadNumber⟩), Y_BadNumber := (⟨ga_BadNumber, gg_BadNumber, ex_BadNumber, hd_BadNumber⟩), ei_BadNumber := (m_BadNumber_init), et_BadNumber := (beq_iff_eq.mp i_BadNumber_init), na_BadNumber_value := (na_BadNumber_value), C_BadPlace := (C_BadPlace), g_C_BadPlace := (PySem.W.mg_of X G g_C_BadPlace), a_BadPlace_init := (f_BadPlace_init), d_BadPlace_init := (_), F_BadPlace_init := (fun_mk (st := s_BadPlace_init) l_BadPlace_init c_BadPlace_init k_BadPlace_init), b_BadPlace_init := ((fun_mk (st := s_BadPlace_init) l_BadPlace_init c_BadPlace_init k_BadPlace_init).binds (ps := P_BadPlace_init) fun _ _ _ _ _ _ us hl => match us, hl with | [_, _], _ => rfl), X_BadPlace := (⟨⟨nm_BadPlace, qn_BadPlace, NN_BadPlace, bs_BadPlace, _, sn_BadPlace, sb_BadPlace, ab_BadPlace, co_BadPlace, dd_BadPlace, m0_BadPlace, m1_BadPlace, m2_BadPlace, m3_BadPlace, m5_BadPlace, x_BadPlace, rfl⟩, sa_BadPlace, ex_BadPlace, ty_BadPlace, kc_BadPlace⟩), Y_BadPlace := (⟨ga_BadPlace, gg_BadPlace, ex_BadPlace, hd_BadPlace⟩), ei_BadPlace := (m_BadPlace_init), et_BadPlace := (beq_iff_eq.mp i_BadPlace_init), na_BadPlace_value := (na_BadPlace_value), C_Uneven := (C_Uneven), g_C_Uneven := (PySem.W.mg_of X G g_C_Uneven), a_Uneven_init := (f_Uneven_init), d_Uneven_init := (_), F_Uneven_init := (fun_mk (st := s_Uneven_init) l_Uneven_init c_Uneven_init k_Uneven_init), b_Uneven_init := ((fun_mk (st := s_Uneven_init) l_Uneven_init c_Uneven_init k_Uneven_init).binds (ps := P_Uneven_init) fun _ _ _ _ _ _ us hl => match us, hl with | [_, _, _], _ => rfl), X_Uneven := (⟨⟨nm_Uneven, qn_Uneven, NN_Uneven, bs_Uneven, _, sn_Uneven, sb_Uneven, ab_Uneven, co_Uneven, dd_Uneven, m0_Uneven, m1_Uneven, m2_Uneven, m3_Uneven, m5_Uneven, x_Uneven, rfl⟩, sa_Uneven, ex_Uneven, ty_Uneven, kc_Uneven⟩), Y_Uneven := (⟨ga_Uneven, gg_Uneven, ex_Uneven, hd_Uneven⟩), ei_Uneven := (m_Uneven_init), et_Uneven := (beq_iff_eq.mp i_Uneven_init), na_Uneven_first := (na_Uneven_first), na_Uneven_second := (na_Uneven_second), C_NotOnto := (C_NotOnto), g_C_NotOnto := (PySem.W.mg_of X G g_C_NotOnto), a_NotOnto_init := (f_NotOnto_init), d_NotOnto_init := (_), F_NotOnto_init := (fun_mk (st := s_NotOnto_init) l_NotOnto_init c_NotOnto_init k_NotOnto_init), b_NotOnto_init := ((fun_mk (st := s_NotOnto_init) l_NotOnto_init c_NotOnto_init k_NotOnto_init).binds (ps := P_NotOnto_init) fun _ _ _ _ _ _ us hl => match us, hl with | [_, _], _ => rfl), X_NotOnto := (⟨⟨nm_NotOnto, qn_NotOnto, NN_NotOnto, bs_NotOnto, _, sn_NotOnto, sb_NotOnto, ab_NotOnto, co_NotOnto, dd_NotOnto, m0_NotOnto, m1_NotOnto, m2_NotOnto, m3_NotOnto, m5_NotOnto, x_NotOnto, rfl⟩, sa_NotOnto, ex_NotOnto, ty_NotOnto, kc_NotOnto⟩), Y_NotOnto := (⟨ga_NotOnto, gg_NotOnto, ex_NotOnto, hd_NotOnto⟩), ei_NotOnto := (m_NotOnto_init), et_NotOnto := (beq_iff_eq.mp i_NotOnto_init), na_NotOnto_number := (na_NotOnto_number), C_Place := (C_Place), g_C_Place := (PySem.W.mg_of X G g_C_Place), cl_Place := (⟨pg_Place, hd_Place, po_Place, sa_Place⟩), ca_Place := (ca_Place), cm_Place := (cm_Place), na_Place_x := (na_Place_x), na_Place_y := (na_Place_y), na_Place_area := (na_Place_area), a_Place_init := (f_Place_init), d_Place_init := (_), F_Place_init := (fun_mk (st := s_Place_init) l_Place_init c_Place_init k_Place_init), b_Place_init := ((fun_mk (st := s_Place_init) l_Place_init c_Place_init k_Place_init).binds (ps := P_Place_init) fun _ _ _ _ _ _ us hl => match us, hl with | [_, _, _, _], _ => rfl), M_Place := (⟨mk_Place, m_Place_init, i_Place_init, kc_Place⟩), a_Place_eq := (f_Place_eq), d_Place_eq := (_), F_Place_eq := (fun_mk (st := s_Place_eq) l_Place_eq c_Place_eq k_Place_eq), b_Place_eq := ((fun_mk (st := s_Place_eq) l_Place_eq c_Place_eq k_Place_eq).binds (ps := P_Place_eq) fun _ _ _ _ _ _ us hl => match us, hl with | [_, _], _ => rfl), E_Place := (⟨m_Place_eq, i_Place_eq, ne_Place, cm_Place⟩), a_Place_mul := (f_Place_mul), d_Place_mul := (_), F_Place_mul := (fun_mk (st := s_Place_mul) l_Place_mul c_Place_mul k_Place_mul), b_Place_mul := ((fun_mk (st := s_Place_mul) l_Place_mul c_Place_mul k_Place_mul).binds (ps := P_Place_mul) fun _ _ _ _ _ _ us hl => match us, hl with | [_, _], _ => rfl), O_Place_Mult := (⟨sf_Place_Mult, m_Place_mul, ro_Place_Mult, i_Place_mul⟩), a_Place_invert := (f_Place_invert), d_Place_invert := (_), F_Place_invert := (fun_mk (st := s_Place_invert) l_Place_invert c_Place_invert k_Place_invert), b_Place_invert := ((fun_mk (st := s_Place_invert) l_Place_invert c_Place_invert k_Place_invert).binds (ps := P_Place_invert) fun _ _ _ _ _ _ us hl => match us, hl with | [_], _ => rfl), m_Place_invert := (m_Place_invert), i_Place_invert := (i_Place_invert), a_Place_power := (f_Place_power), d_Place_power := (_), F_Place_power := (fun_mk (st := s_Place_power) l_Place_power c_Place_power k_Place_power), b_Place_power := ((fun_mk (st := s_Place_power) l_Place_power c_Place_power k_Place_power).binds (ps := P_Place_power) fun _ _ _ _ _ _ us hl => match us, hl with | [_, _], _ => rfl), M_Place_power := (⟨m_Place_power, i_Place_power, k_Place_power⟩), a_Place_is_home := (f_Place_is_home), d_Place_is_home := (_), F_Place_is_home := (fun_mk (st := s_Place_is_home) l_Place_is_home c_Place_is_home k_Place_is_home), b_Place_is_home := ((fun_mk (st := s_Place_is_home) l_Place_is_home c_Place_is_home k_Place_is_home).binds (ps := P_Place_is_home) fun _ _ _ _ _ _ us hl => match us, hl with | [_], _ => rfl), M_Place_is_home := (⟨m_Place_is_home, i_Place_is_home, k_Place_is_home⟩), a_Place_lifted := (f_Place_lifted), d_Place_lifted := (_), F_Place_lifted := (fun_mk (st := s_Place_lifted) l_Place_lifted c_Place_lifted k_Place_lifted), b_Place_lifted := ((fun_mk (st := s_Place_lifted) l_Place_lifted c_Place_lifted k_Place_lifted).binds (ps := P_Place_lifted) fun _ _ _ _ _ _ us hl => match us, hl with | [_, _], _ => rfl), M_Place_lifted := (⟨m_Place_lifted, i_Place_lifted, k_Place_lifted⟩), a_Place_twist := (f_Place_twist), d_Place_twist := (_), F_Place_twist := (fun_mk (st := s_Place_twist) l_Place_twist c_Place_twist k_Place_twist), b_Place_twist := ((fun_mk (st := s_Place_twist) l_Place_twist c_Place_twist k_Place_twist).binds (ps := P_Place_twist) fun _ _ _ _ _ _ us hl => match us, hl with | [_, _], _ => rfl), M_Place_twist := (⟨m_Place_twist, i_Place_twist, k_Place_twist⟩), C_Renaming := (C_Renaming), g_C_Renaming := (PySem.W.mg_of X G g_C_Renaming), cl_Renaming := (⟨pg_Renaming, hd_Renaming, po_Renaming, sa_Renaming⟩), ca_Renaming := (ca_Renaming), cm_Renaming := (cm_Renaming), na_Renaming_east := (na_Renaming_east), na_Renaming_north := (na_Renaming_north), a_Renaming_init := (f_Renaming_init), d_Renaming_init := (_), F_Renaming_init := (fun_mk (st := s_Renaming_init) l_Renaming_init c_Renaming_init k_Renaming_init), b_Renaming_init := ((fun_mk (st := s_Renaming_init) l_Renaming_init c_Renaming_init k_Renaming_init).binds (ps := P_Renaming_init) fun _ _ _ _ _ _ us hl => match us, hl with | [_, _, _], _ => rfl), M_Renaming := (⟨mk_Renaming, m_Renaming_init, i_Renaming_init, kc_Renaming⟩), a_Renaming_eq := (f_Renaming_eq), d_Renaming_eq := (_), F_Renaming_eq := (fun_mk (st := s_Renaming_eq) l_Renaming_eq c_Renaming_eq k_Renaming_eq), b_Renaming_eq := ((fun_mk (st := s_Renaming_eq) l_Renaming_eq c_Renaming_eq k_Renaming_eq).binds (ps := P_Renaming_eq) fun _ _ _ _ _ _ us hl => match us, hl with | [_, _], _ => rfl), E_Renaming := (⟨m_Renaming_eq, i_Renaming_eq, ne_Renaming, cm_Renaming⟩), a_Renaming_call := (f_Renaming_call), d_Renaming_call := (_), F_Renaming_call := (fun_mk (st := s_Renaming_call) l_Renaming_call c_Renaming_call k_Renaming_call), b_Renaming_call := ((fun_mk (st := s_Renaming_call) l_Renaming_call c_Renaming_call k_Renaming_call).binds (ps := P_Renaming_call) fun _ _ _ _ _ _ us hl => match us, hl with | [_, _], _ => rfl), K_Renaming_call := (⟨m_Renaming_call, i_Renaming_call, (by unfold PySem.W.fnIn; rw [l_Renaming_call])⟩), M_Renaming_call := (⟨m_Renaming_call, i_Renaming_call, k_Renaming_call⟩), a_Renaming_mul := (f_Renaming_mul), d_Renaming_mul := (_), F_Renaming_mul := (fun_mk (st := s_Renaming_mul) l_Renaming_mul c_Renaming_mul k_Renaming_mul), b_Renaming_mul := ((fun_mk (st := s_Renaming_mul) l_Renaming_mul c_Renaming_mul k_Renaming_mul).binds (ps := P_Renaming_mul) fun _ _ _ _ _ _ us hl => match us, hl with | [_, _], _ => rfl), O_Renaming_Mult := (⟨sf_Renaming_Mult, m_Renaming_mul, ro_Renaming_Mult, i_Renaming_mul⟩), a_Renaming_invert := (f_Renaming_invert), d_Renaming_invert := (_), F_Renaming_invert := (fun_mk (st := s_Renaming_invert) l_Renaming_invert c_Renaming_invert k_Renaming_invert), b_Renaming_invert := ((fun_mk (st := s_Renaming_invert) l_Renaming_invert c_Renaming_invert k_Renaming_invert).binds (ps := P_Renaming_invert) fun _ _ _ _ _ _ us hl => match us, hl with | [_], _ => rfl), m_Renaming_invert := (m_Renaming_invert), i_Renaming_invert := (i_Renaming_invert), a_Renaming_factor := (f_Renaming_factor), d_Renaming_factor := (_), F_Renaming_factor := (fun_mk (st := s_Renaming_factor) l_Renaming_factor c_Renaming_factor k_Renaming_factor), b_Renaming_factor := ((fun_mk (st := s_Renaming_factor) l_Renaming_factor c_Renaming_factor k_Renaming_factor).binds (ps := P_Renaming_factor) fun _ _ _ _ _ _ us hl => match us, hl with | [_], _ => rfl), M_Renaming_factor := (⟨m_Renaming_factor, i_Renaming_factor, k_Renaming_factor⟩), a_Renaming_power := (f_Renaming_power), d_Renaming_power := (_), F_Renaming_power := (fun_mk (st := s_Renaming_power) l_Renaming_power c_Renaming_power k_Renaming_power), b_Renaming_power := ((fun_mk (st := s_Renaming_power) l_Renaming_power c_Renaming_power k_Renaming_power).binds (ps := P_Renaming_power) fun _ _ _ _ _ _ us hl => match us, hl with | [_, _], _ => rfl), M_Renaming_power := (⟨m_Renaming_power, i_Renaming_power, k_Renaming_power⟩), a_Renaming_order := (f_Renaming_order), d_Renaming_order := (_), F_Renaming_order := (fun_mk (st := s_Renaming_order) l_Renaming_order c_Renaming_order k_Renaming_order), b_Renaming_order := ((fun_mk (st := s_Renaming_order) l_Renaming_order c_Renaming_order k_Renaming_order).binds (ps := P_Renaming_order) fun _ _ _ _ _ _ us hl => match us, hl with | [_], _ => rfl), M_Renaming_order := (⟨m_Renaming_order, i_Renaming_order, k_Renaming_order⟩), a_Renaming_index := (f_Renaming_index), d_Renaming_index := (_), F_Renaming_index := (fun_mk (st := s_Renaming_index) l_Renaming_index c_Renaming_index k_Renaming_index), b_Renaming_index := ((fun_mk (st := s_Renaming_index) l_Renaming_index c_Renaming_index k_Renaming_index).binds (ps := P_Renaming_index) fun _ _ _ _ _ _ us hl => match us, hl with | [_], _ => rfl), M_Renaming_index := (⟨m_Renaming_index, i_Renaming_index, k_Renaming_index⟩), a_Renaming_keeps_steps := (f_Renaming_keeps_steps), d_Renaming_keeps_steps := (_), F_Renaming_keeps_steps := (fun_mk (st := s_Renaming_keeps_steps) l_Renaming_keeps_steps c_Renaming_keeps_steps k_Renaming_keeps_steps), b_Renaming_keeps_steps := ((fun_mk (st := s_Renaming_keeps_steps) l_Renaming_keeps_steps c_Renaming_keeps_steps k_Renaming_keeps_steps).binds (ps := P_Renaming_keeps_steps) fun _ _ _ _ _ _ us hl => match us, hl with | [_], _ => rfl), M_Renaming_keeps_steps := (⟨m_Renaming_keeps_steps, i_Renaming_keeps_steps, k_Renaming_keeps_steps⟩), cn := (cn), ct := (ct), io_Place_int := (io_Place_int), io_Place_bool := (io_Place_bool), is_NoneType_Place := (is_NoneType_Place), sb_NoneType_Place := (sb_NoneType_Place), is_bool_Place := (is_bool_Place), sb_bool_Place := (sb_bool_Place), is_int_Place := (is_int_Place), sb_int_Place := (sb_int_Place), is_str_Place := (is_str_Place), sb_str_Place := (sb_str_Place), is_list_Place := (is_list_Place), sb_list_Place := (sb_list_Place), is_tuple_Place := (is_tuple_Place), sb_tuple_Place := (sb_tuple_Place), is_dict_Place := (is_dict_Place), sb_dict_Place := (sb_dict_Place), ip_Place_Renaming := (ip_Place_Renaming), sp_Place_Renaming := (sp_Place_Renaming), io_Renaming_int := (io_Renaming_int), io_Renaming_bool := (io_Renaming_bool), is_NoneType_Renaming := (is_NoneType_Renaming), sb_NoneType_Renaming := (sb_NoneType_Renaming), is_bool_Renaming := (is_bool_Renaming), sb_bool_Renaming := (sb_bool_Renaming), is_int_Renaming := (is_int_Renaming), sb_int_Renaming := (sb_int_Renaming), is_str_Renaming := (is_str_Renaming), sb_str_Renaming := (sb_str_Renaming), is_list_Renaming := (is_list_Renaming), sb_list_Renaming := (sb_list_Renaming), is_tuple_Renaming := (is_tuple_Renaming), sb_tuple_Renaming := (sb_tuple_Renaming), is_dict_Renaming := (is_dict_Renaming), sb_dict_Renaming := (sb_dict_Renaming), ip_Renaming_Place := (ip_Renaming_Place), sp_Renaming_Place := (sp_Renaming_Place), em_BadNumber_BadPlace := (em_BadNumber_BadPlace), em_BadPlace_BadPlace := (em_BadPlace_BadPlace), em_NotOnto_BadPlace := (em_NotOnto_BadPlace), em_Uneven_BadPlace := (em_Uneven_BadPlace), em_BadNumber_Uneven := (em_BadNumber_Uneven), em_BadPlace_Uneven := (em_BadPlace_Uneven), em_NotOnto_Uneven := (em_NotOnto_Uneven), em_Uneven_Uneven := (em_Uneven_Uneven), n_NotImplemented := (PySem.W.mg_none_of X G n_NotImplemented), n_abs := (PySem.W.mg_none_of X G n_abs), n_all := (PySem.W.mg_none_of X G n_all), n_bool := (PySem.W.mg_none_of X G n_bool), n_int := (PySem.W.mg_none_of X G n_int), n_isinstance := (PySem.W.mg_none_of X G n_isinstance), n_len := (PySem.W.mg_none_of X G n_len), n_list := (PySem.W.mg_none_of X G n_list), n_range := (PySem.W.mg_none_of X G n_range), n_tuple := (PySem.W.mg_none_of X G n_tuple), n_zip := (PySem.W.mg_none_of X G n_zip), c_FINITE_ORDERS := (k_FINITE_ORDERS), gc_FINITE_ORDERS := (PySem.W.mg_of X G gc_FINITE_ORDERS), qc_FINITE_ORDERS := (fun _ => sqT_const lc_FINITE_ORDERS vc_FINITE_ORDERS (by decide)), tk_MOST_TIMES := (tk_MOST_TIMES), gc_MOST_TIMES := (PySem.W.mg_of X G gc_MOST_TIMES) } ?_ rfl
  have e := hfa.symm.trans (PySem.W.mg_of X G g_law)
  cases e
  rfl
end AW

set_option linter.all false
set_option maxRecDepth 100000
set_option maxHeartbeats 4000000
namespace AW
open PySem PySem.Spec PyProof.Rows L2
/-! ### what values there are -/
section
variable {K : PySem.W.Frag} {mg : Str → Option Value}
/-- the type of a value of the law's -/
def TyT (T : Tx K mg) (t : Value) : Prop := t = .ref T.C_Place ∨ t = .type "NoneType" ∨ t = .type "bool" ∨ t = .type "int" ∨ t = .type "str" ∨ t = .type "list" ∨ t = .type "tuple" ∨ t = .type "dict"
def isI (t : Value) : Bool := t == .type "int" || t == .type "bool"
def isB (t : Value) : Bool := t == .type "bool"
def isP (T : Tx K mg) (t : Value) : Bool := t == .ref T.C_Place
theorem kit_int (T : Tx K mg) {t : Value} (h : TyT T t) : PySem.W.kitOne K t (.type "int") = some (isI t) := by
  rcases h with rfl | rfl | rfl | rfl | rfl | rfl | rfl | rfl
  · exact T.io_Place_int
  all_goals exact kit_ty (by decide +kernel)
theorem kit_bool (T : Tx K mg) {t : Value} (h : TyT T t) : PySem.W.kitOne K t (.type "bool") = some (isB t) := by
  rcases h with rfl | rfl | rfl | rfl | rfl | rfl | rfl | rfl
  · exact T.io_Place_bool
  all_goals exact kit_ty (by decide +kernel)
theorem kit_self {t : Value} : PySem.W.kitOne K t t = some true := by
  unfold PySem.W.kitOne
  rw [if_pos (by simp)]
theorem kit_place (T : Tx K mg) {t : Value} (h : TyT T t) : PySem.W.kitOne K t (.ref T.C_Place) = some (isP T t) := by
  rcases h with rfl | rfl | rfl | rfl | rfl | rfl | rfl | rfl
  · rw [kit_self]; simp [isP]
  · exact T.is_NoneType_Place
  · exact T.is_bool_Place
  · exact T.is_int_Place
  · exact T.is_str_Place
  · exact T.is_list_Place
  · exact T.is_tuple_Place
  · exact T.is_dict_Place
def intV : V → Bool
  | .int _ => true
  | _ => false
theorem intV_of {H : Hp} {v : V} {t : Value} (ty : TyX K H v t) : (isI t && !isB t) = intV v := by
  cases ty with
  | base b => cases b <;> first | rfl | (simp [isI, isB, intV])
  | _ => rfl
/-- a value of the law's, in the heap H -/
def Vl (T : Tx K mg) (H : Hp) (v : V) : Prop := ∃ t, TyX K H v t ∧ TyT T t
theorem TyOf.mono {H H' : Hp} {v : V} {t : Value} (s : Same H H') (h : TyOf K H v t) : TyOf K H' v t := by
  cases h with
  | non => exact .non
  | bl x => exact .bl x
  | int i => exact .int i
  | str x => exact .str x
  | flt x => exact .flt x
  | lst e => exact .lst (s _ _ e)
  | frz e => exact .frz (s _ _ e)
  | tup e => exact .tup (s _ _ e)
  | dK e => exact .dK (s _ _ e)
  | dT e => exact .dT (s _ _ e)
  | ins e cl ha hn htk hm => exact .ins (s _ _ e) cl ha hn htk hm
theorem TyX.mono {H H' : Hp} {v : V} {t : Value} (s : Same H H') (h : TyX K H v t) : TyX K H' v t := by
  cases h with
  | base b => exact .base (TyOf.mono s b)
  | byt b => exact .byt b
  | set e => exact .set (s _ _ e)
  | kList e c => exact .kList e c
  | kTuple e c => exact .kTuple e c
  | kDict e c => exact .kDict e c
  | fTuple e => exact .fTuple (s _ _ e)
  | fDict e => exact .fDict (s _ _ e)
theorem Vl.mono {T : Tx K mg} {H H' : Hp} {v : V} (s : Same H H') (h : Vl T H v) : Vl T H' v := let ⟨t, a, b⟩ := h; ⟨t, TyX.mono s a, b⟩
theorem Vl.int {T : Tx K mg} {H : Hp} (i : Int) : Vl T H (.int i) := ⟨_, .base (.int i), .inr (.inr (.inr (.inl rfl)))⟩
theorem Vl.non {T : Tx K mg} {H : Hp} : Vl T H .non := ⟨_, .base .non, .inr (.inl rfl)⟩
theorem Vl.bl {T : Tx K mg} {H : Hp} (b : Bool) : Vl T H (.bl b) := ⟨_, .base (.bl b), .inr (.inr (.inl rfl))⟩
theorem Vl.str {T : Tx K mg} {H : Hp} (b : Str) : Vl T H (.str b) := ⟨_, .base (.str b), .inr (.inr (.inr (.inr (.inl rfl))))⟩
theorem Vl.lst {T : Tx K mg} {H : Hp} {a : Addr} {xs : List V} (e : H a = some (.lst xs)) : Vl T H (.ref a) := ⟨_, .base (.lst e), .inr (.inr (.inr (.inr (.inr (.inl rfl)))))⟩
theorem Vl.tup {T : Tx K mg} {H : Hp} {a : Addr} {xs : List V} (e : H a = some (.tup xs)) : Vl T H (.ref a) := ⟨_, .base (.tup e), .inr (.inr (.inr (.inr (.inr (.inr (.inl rfl))))))⟩
theorem Vl.dct {T : Tx K mg} {H : Hp} {a : Addr} {xs : List (Key × V)} (e : H a = some (.dK xs)) : Vl T H (.ref a) := ⟨_, .base (.dK e), .inr (.inr (.inr (.inr (.inr (.inr (.inr rfl))))))⟩
/-! ### places -/
theorem kxy : ¬ (("x" : Str) = "y") := by decide +kernel
theorem kxa : ¬ (("x" : Str) = "area") := by decide +kernel
theorem kya : ¬ (("y" : Str) = "area") := by decide +kernel
def flds (x y a : Int) : List (Str × V) := [("x", .int x), ("y", .int y), ("area", .int a)]
theorem flds_x (x y a : Int) : (flds x y a).lookup ("x" : Str) = some (.int x) := by simp [flds, List.lookup]
theorem flds_y (x y a : Int) : (flds x y a).lookup ("y" : Str) = some (.int y) := by
  have h : (("y" : Str) == "x") = false := by decide +kernel
  simp [flds, List.lookup, h]
theorem flds_a (x y a : Int) : (flds x y a).lookup ("area" : Str) = some (.int a) := by
  have h : (("area" : Str) == "x") = false := by decide +kernel
  have h2 : (("area" : Str) == "y") = false := by decide +kernel
  simp [flds, List.lookup, h, h2]
theorem flds_no (x y a : Int) {m : Str} (h1 : (m == ("x" : Str)) = false) (h2 : (m == ("y" : Str)) = false) (h3 : (m == ("area" : Str)) = false) : (flds x y a).lookup m = none := by simp [flds, List.lookup, h1, h2, h3]
/-- a Place (x, y, a) at p -/
def PlAt (T : Tx K mg) (H : Hp) (p : Addr) (x y a : Int) : Prop := ∃ dx, H p = some (.ins T.C_Place dx (flds x y a))
theorem PlAt.mono {T : Tx K mg} {H H' : Hp} {p : Addr} {x y a : Int} (s : Same H H') (h : PlAt T H p x y a) : PlAt T H' p x y a := let ⟨dx, e⟩ := h; ⟨dx, s _ _ e⟩
theorem PlAt.ty {T : Tx K mg} {H : Hp} {p : Addr} {x y a : Int} (h : PlAt T H p x y a) : TyX K H (.ref p) (.ref T.C_Place) := let ⟨_, e⟩ := h; .base (.ins e T.cl_Place T.ca_Place T.cn T.ct T.cm_Place)
theorem PlAt.vl {T : Tx K mg} {H : Hp} {p : Addr} {x y a : Int} (h : PlAt T H p x y a) : Vl T H (.ref p) := ⟨_, h.ty, .inl rfl⟩
theorem Same.laid {H : Hp} {p : Addr} {o : HO} (h : H p = none) : Same H (upd H p o) := fun b u e => by rw [upd_ne (ne_of_none e h)]; exact e
theorem Same.after {H H1 : Hp} {p : Addr} {o : HO} (s : Same H H1) (h : H1 p = none) : Same H (upd H1 p o) := s.trans (Same.laid h)
end
end AW

set_option linter.all false
set_option maxRecDepth 100000
set_option maxHeartbeats 4000000
namespace AW
open PySem PySem.Spec PyProof.Rows L2
section
variable {P : Program} {w : World} {K : PySem.W.Frag} {mg : Str → Option Value} {base : Heap}
/-- what an own error of a base def lets out, by the def's own wish -/
theorem passE {X : Cx} {E : XK} {E₁ : Value → Shared → Prop} (hs : X.stack = X.env :: X.outer := by rfl) (hf : X.env.frame = some X.env.locals := by rfl) (hex : X.ex = [] := by rfl)
    (hx : X.xe = fun e s' => wpAny (model X.prog X.w) X.A (leaving X.env e) (fun _ s'' => L2.CX X.prog X.w X.outer X.H_0 X.s_0 E e s'') E₁ s' := by rfl) : Passes (L2.CX X.prog X.w) X E :=
  passes_call (takes_of hs hf hex hx) (fun _ _ _ _ h => h)
def sp_is_integer (T : Tx K mg) : Sp := fun vs H Q _ => ∃ v, vs = [v] ∧ Vl T H v ∧ Q (.bl (intV v)) H
theorem ok_is_integer (T : Tx K mg) : FnOk P w K mg base (L2.CX P w) 1 T.a_is_integer T.d_is_integer P_is_integer (sp_is_integer T) := by
  refine T.F_is_integer.okX sc_is_integer (fun vs H Q E h => ?_) (fun cdv A outer s H vs Q E hr h => ?_)
  · obtain ⟨v, rfl, _⟩ := h
    rfl
  · obtain ⟨v, rfl, ⟨t, ty, hv⟩, k⟩ := h
    refine ⟨_, pss_one (ps_ret (pe_and (pe_callB call_isi rfl T.n_isinstance (by decide +kernel) (pa_cons (pv 0) (pa_cons (pe_bltn (v := .ty "int") rfl T.n_int (by decide +kernel) rfl) pa_nil)))
      (pe_one (pe_not (pe_callB call_isi rfl T.n_isinstance (by decide +kernel) (pa_cons (pv 0) (pa_cons (pe_bltn (v := .ty "bool") rfl T.n_bool (by decide +kernel) rfl) pa_nil))))))), ?_⟩
    refine ⟨_, rfl, v, .ty "int", t, _, isI t, rfl, .ty _, ty, kit_int T hv, _, rfl, ?_⟩
    cases hi : isI t with
    | false =>
      refine iteF ?_
      have e := intV_of ty
      rw [hi] at e
      have e' : intV v = false := by rw [← e] <;> rfl
      rw [e'] at k
      exact k
    | true =>
      refine iteT ⟨_, rfl, v, .ty "bool", t, _, isB t, rfl, .ty _, ty, kit_bool T hv, _, rfl, ?_⟩
      have e := intV_of ty
      rw [hi, Bool.true_and] at e
      rw [e]
      exact k
/-- an error's own __init__ -/
def sp_einit (C : Addr) (f : Str) : Sp := fun vs H Q _ => ∃ (a : Addr) (v : V), vs = [.ref a, v] ∧ H a = some (exo a C none) ∧ ∀ dx, H dx = none → dx ≠ a → Q .non (upd (upd H dx (exd dx [(f, v)])) a (exo a C (some dx)))
theorem ok_BadNumber_init (T : Tx K mg) : FnOk P w K mg base (L2.CX P w) 1 T.a_BadNumber_init T.d_BadNumber_init P_BadNumber_init (sp_einit T.C_BadNumber "value") := by
  refine T.F_BadNumber_init.okX sc_BadNumber_init (fun vs H Q E h => ?_) (fun cdv A outer s H vs Q E hr h => ?_)
  · obtain ⟨a, v, rfl, _⟩ := h
    rfl
  · obtain ⟨a, v, rfl, ha, k⟩ := h
    refine ⟨_, pss_one (ps_ost (pv 0) (pv 1)), ?_⟩
    exact ⟨_, rfl, _, rfl, a, T.C_BadNumber, rfl, T.X_BadNumber, T.na_BadNumber_value, .inl ⟨ha, fun dx hd ne => k dx hd ne⟩⟩
theorem ok_BadPlace_init (T : Tx K mg) : FnOk P w K mg base (L2.CX P w) 1 T.a_BadPlace_init T.d_BadPlace_init P_BadPlace_init (sp_einit T.C_BadPlace "value") := by
  refine T.F_BadPlace_init.okX sc_BadPlace_init (fun vs H Q E h => ?_) (fun cdv A outer s H vs Q E hr h => ?_)
  · obtain ⟨a, v, rfl, _⟩ := h
    rfl
  · obtain ⟨a, v, rfl, ha, k⟩ := h
    refine ⟨_, pss_one (ps_ost (pv 0) (pv 1)), ?_⟩
    exact ⟨_, rfl, _, rfl, a, T.C_BadPlace, rfl, T.X_BadPlace, T.na_BadPlace_value, .inl ⟨ha, fun dx hd ne => k dx hd ne⟩⟩
/-- the wish for an error with one field: behind it the heap has its dict -/
def Err (H : Hp) (E : XK) (C : Addr) (f : Str) (v : V) : Prop := ∀ (d : Addr) (H' : Hp), Same H H' → H d = none → H' d = some (.xd [(f, v)]) → E (.ref C) (some d) H'
theorem Err.mono {H H1 : Hp} {E : XK} {C : Addr} {f : Str} {v : V} (s : Same H H1) (e : Err H E C f v) : Err H1 E C f v := fun d H' s' n h => e d H' (s.trans s') (s.free n) h
/-- what raise C(v) asks, by the init's promise -/
theorem mk_einit {C : Addr} {f : Str} {σ : L2.St} {H : Hp} {Q : XK} {ta : TA} {v : V} (h : ta σ H fun vs H1 => vs = [v] ∧ H1 = H) (k : Err H Q C f v) (hta : ∀ (Q Q' : List V → Hp → Prop), (∀ vs H, Q vs H → Q' vs H) → ta σ H Q → ta σ H Q') : tMkO C (sp_einit C f) [] ta σ H Q := by
  refine hta _ _ ?_ h
  rintro vs H1 ⟨rfl, rfl⟩
  refine ⟨by show 1 ≤ 1000; decide, fun a ha => ⟨a, v, rfl, upd_same, fun dx hd ne => ⟨rfl, dx, [(f, v)], upd_same, ?_, ?_, ?_⟩⟩⟩
  · rw [upd_ne ne, upd_same]
  · rw [upd_ne ne] at hd; exact hd
  · have hdx : H1 dx = none := by rw [upd_ne ne] at hd; exact hd
    refine k dx _ (fun b o e => ?_) hdx upd_same
    have nb : b ≠ dx := ne_of_none e hdx
    have na : b ≠ a := ne_of_none e ha
    rw [upd_ne nb, del_ne na, upd_ne na, upd_ne nb, upd_ne na]
    exact e
def sp_check_integer (T : Tx K mg) : Sp := fun vs H Q E => ∃ v, vs = [v] ∧ Vl T H v ∧ (intV v = true → Q .non H) ∧ (intV v = false → Err H E T.C_BadNumber "value" v)
theorem ok_check_integer (T : Tx K mg) : FnOk P w K mg base (L2.CX P w) 3 T.a_check_integer T.d_check_integer P_check_integer (sp_check_integer T) := by
  have G1 : FnOk P w K mg base (L2.CX P w) 1 _ _ _ _ := ok_is_integer T
  have G2 : FnOk P w K mg base (L2.CX P w) 1 _ _ _ _ := ok_BadNumber_init T
  refine T.F_check_integer.okX sc_check_integer (fun vs H Q E h => ?_) (fun cdv A outer s H vs Q E hr h => ?_)
  · obtain ⟨v, rfl, _⟩ := h
    rfl
  · obtain ⟨v, rfl, hv, kt, kf⟩ := h
    refine ⟨_, pss_one (ps_if (pt_not (pt_val (pe_call G1 (hr.mono (by decide)) rfl T.g_is_integer T.F_is_integer.kp T.b_is_integer .nil passL (pa_cons (pv 0) pa_nil))))
      (pss_one (ps_raise rfl (takes_of rfl rfl rfl rfl) (pmk_oex T.X_BadNumber T.ei_BadNumber T.et_BadNumber G2 hr T.b_BadNumber_init .nil passL rfl T.g_C_BadNumber (by exact pa_cons (pv 0) pa_nil)))) pss_nil), ?_⟩
    refine ⟨_, rfl, v, rfl, hv, _, rfl, ?_⟩
    cases hi : intV v with
    | true => exact iteF (kt hi)
    | false =>
      refine iteT ?_
      exact mk_einit (v := v) ⟨_, rfl, rfl, rfl⟩ (kf hi) (fun Q Q' h1 ⟨x, e, h2⟩ => ⟨x, e, h1 _ _ h2⟩)
end
end AW

set_option linter.all false
set_option maxRecDepth 100000
set_option maxHeartbeats 4000000
namespace AW
open PySem PySem.Spec PyProof.Rows L2
theorem find_first {α : Type} {p : α → Bool} : ∀ {xs : List α} {i : Nat} {v : α}, xs[i]? = some v → p v = true → (∀ (j : Nat) u, j < i → xs[j]? = some u → p u = false) → xs.find? p = some v
  | [], _, _, h, _, _ => by simp at h
  | a :: r, 0, v, h, hp, _ => by
    simp at h; subst h
    simp [List.find?, hp]
  | a :: r, i + 1, v, h, hp, hq => by
    have ha : p a = false := hq 0 a (Nat.succ_pos _) (by simp)
    simp only [List.find?, ha]
    exact find_first (by simpa using h) hp fun j u hj hu => hq (j + 1) u (Nat.succ_lt_succ hj) (by simpa using hu)
section
variable {P : Program} {w : World} {K : PySem.W.Frag} {mg : Str → Option Value} {base : Heap}
def sp_Place_init (T : Tx K mg) : Sp := fun vs H Q E => ∃ (p dx : Addr) (vx vy va : V), vs = [.ref p, vx, vy, va] ∧ H p = some (.ins T.C_Place dx []) ∧ Vl T H vx ∧ Vl T H vy ∧ Vl T H va ∧
  ((∃ x y a, vx = .int x ∧ vy = .int y ∧ va = .int a ∧ ∀ H' : Hp, (∀ b o, b ≠ p → H b = some o → H' b = some o) → H' p = some (.ins T.C_Place dx (flds x y a)) → Q .non H') ∨
   (∃ v, [vx, vy, va].find? (fun v => !intV v) = some v ∧ Err H E T.C_BadNumber "value" v))
theorem putF3 (x y a : Int) : putF "area" (.int a) (putF "y" (.int y) (putF "x" (.int x) [])) = flds x y a := by
  simp [putF, flds, kxy, kxa, kya]
theorem ok_Place_init (T : Tx K mg) : FnOk P w K mg base (L2.CX P w) 4 T.a_Place_init T.d_Place_init P_Place_init (sp_Place_init T) := by
  have G1 : FnOk P w K mg base (L2.CX P w) 3 _ _ _ _ := ok_check_integer T
  refine T.F_Place_init.okX sc_Place_init (fun vs H Q E h => ?_) (fun cdv A outer s H vs Q E hr h => ?_)
  · obtain ⟨p, dx, vx, vy, va, rfl, _⟩ := h
    rfl
  · obtain ⟨p, dx, vx, vy, va, rfl, hp, hx, hy, ha, k⟩ := h
    refine ⟨_, pss_cons (ps_for (passes_of rfl) rfl (pi_tup (pe_tup (pa_cons (pv 1) (pa_cons (pv 2) (pa_cons (pv 3) pa_nil))))) (pg_name (i := 4) sc_Place_init.nd rfl (.inl rfl))
        (pss_one (ps_expr (pe_call G1 hr rfl T.g_check_integer T.F_check_integer.kp T.b_check_integer .nil (passE (E := E)) (pa_cons (pv 4) pa_nil)))))
      (pss_cons (ps_fld (pv 0) (pv 1) rfl) (pss_cons (ps_fld (pv 0) (pv 2) rfl) (pss_one (ps_fld (pv 0) (pv 3) rfl)))), ?_⟩
    refine ⟨_, rfl, _, rfl, _, rfl, (by show 3 ≤ sizeLine; decide), fun t ht => ⟨t, rfl, ⟨_, SqT.of upd_same⟩, ?_⟩⟩
    have s0 : Same H (upd H t (.tup [vx, vy, va])) := Same.laid ht
    refine for_tup (K := K) (a := t) (xs := [vx, vy, va]) (fun i σ H1 => (∃ v, σ = [some (.ref p), some vx, some vy, some va, v]) ∧ H1 = upd H t (.tup [vx, vy, va]) ∧ ∀ (j : Nat) u, j < i → [vx, vy, va][j]? = some u → (!intV u) = false)
      ⟨⟨none, rfl⟩, rfl, fun j u hj => absurd hj (Nat.not_lt_zero _)⟩ (fun i σ H1 _ ⟨_, e, _⟩ => by rw [e]; exact SqT.of upd_same) ?_ ?_
    · rintro i v σ H1 hi ⟨⟨v0, rfl⟩, rfl, hj⟩
      have hv : Vl T H v := by
        match i, hi with
        | 0, hi => simp at hi; subst hi; exact hx
        | 1, hi => simp at hi; subst hi; exact hy
        | 2, hi => simp at hi; subst hi; exact ha
      refine ⟨_, rfl, v, rfl, hv.mono s0, fun hi' => ⟨⟨_, rfl⟩, rfl, fun j u hlt hu => ?_⟩, fun hi' => ?_⟩
      · rcases Nat.lt_succ_iff_lt_or_eq.mp hlt with h | h
        · exact hj j u h hu
        · subst h; rw [hi] at hu; cases hu; rw [hi']; rfl
      · have hf := find_first (p := fun v => !intV v) hi (by rw [hi']; rfl) hj
        rcases k with ⟨x, y, a, rfl, rfl, rfl, _⟩ | ⟨v', h1, h2⟩
        · simp [List.find?, intV] at hf
        · rw [hf] at h1; cases h1
          exact h2.mono s0
    · rintro σ H1 ⟨⟨v0, rfl⟩, rfl, hj⟩
      rcases k with ⟨x, y, a, rfl, rfl, rfl, k⟩ | ⟨v', h1, h2⟩
      · have np : p ≠ t := ne_of_none hp ht
        refine ⟨_, rfl, _, rfl, p, T.C_Place, dx, [], rfl, (by rw [upd_ne np]; exact hp), T.cl_Place, T.na_Place_x, (by decide), ?_⟩
        refine ⟨_, rfl, _, rfl, p, T.C_Place, dx, _, rfl, upd_same, T.cl_Place, T.na_Place_y, (by show 1 < 1000; decide), ?_⟩
        refine ⟨_, rfl, _, rfl, p, T.C_Place, dx, _, rfl, upd_same, T.cl_Place, T.na_Place_area, (by have h1 := length_putF "y" (V.int y) (putF "x" (V.int x) []); have h2 := length_putF "x" (V.int x) []; have h3 : ([] : List (Str × V)).length = 0 := rfl; omega), ?_⟩
        refine k _ (fun b o nb e => ?_) ?_
        · rw [upd_ne nb, upd_ne nb, upd_ne nb, upd_ne (ne_of_none e ht)]
          exact e
        · rw [upd_same, putF3]
      · have hm := List.find?_some h1
        have hmem := List.mem_of_find?_eq_some h1
        obtain ⟨j, hj1, hj2⟩ := List.getElem_of_mem hmem
        have := hj j v' hj1 (by rw [List.getElem?_eq_getElem hj1, hj2])
        rw [this] at hm
        cases hm
/-- what a call Place(x, y, a) of ints asks: a new Place p -/
theorem mk_place (T : Tx K mg) {H : Hp} {Q : VK} {E : XK} {x y a : Int} (k : ∀ p H', Same H H' → H p = none → PlAt T H' p x y a → Q (.ref p) H') :
    ∀ p dx, H p = none → H dx = none → dx ≠ p → sp_Place_init T (.ref p :: ([.int x, .int y, .int a] ++ [])) (upd (upd H dx (.own p)) p (.ins T.C_Place dx [])) (fun v H2 => v = .non ∧ Q (.ref p) H2) E := fun p dx hp hd ne =>
  ⟨p, dx, _, _, _, rfl, upd_same, .int x, .int y, .int a, .inl ⟨x, y, a, rfl, rfl, rfl, fun H' s e => ⟨rfl, k p H' (fun b o h => s b o (ne_of_none h hp) (by rw [upd_ne (ne_of_none h hp), upd_ne (ne_of_none h hd)]; exact h)) hp ⟨dx, e⟩⟩⟩⟩
end
end AW

set_option linter.all false
set_option maxRecDepth 100000
set_option maxHeartbeats 4000000
namespace AW
open PySem PySem.Spec PyProof.Rows L2
theorem ifT {c : Bool} {A B : Prop} (hc : c = true) (h : A) : if c = true then A else B := by
  rw [if_pos hc]
  exact h
theorem ifN {c : Bool} {A B : Prop} (hc : c = false) (h : B) : if c = true then A else B := by
  rw [hc, if_neg Bool.false_ne_true]
  exact h
/-! ### sizes of ints -/
def Bd (k : Nat) (i : Int) : Prop := i.natAbs < 2 ^ k
theorem Bd.mono {k m : Nat} {i : Int} (h : Bd k i) (l : k ≤ m) : Bd m i := Nat.lt_of_lt_of_le h (Nat.pow_le_pow_right (by decide) l)
theorem Bd.neg {k : Nat} {i : Int} (h : Bd k i) : Bd k (-i) := by unfold Bd; rw [Int.natAbs_neg]; exact h
theorem Bd.add {k : Nat} {i j : Int} (h : Bd k i) (g : Bd k j) : Bd (k + 1) (i + j) := by
  unfold Bd at *
  rw [Nat.pow_succ]
  omega
theorem Bd.sub {k : Nat} {i j : Int} (h : Bd k i) (g : Bd k j) : Bd (k + 1) (i - j) := by
  unfold Bd at *
  rw [Nat.pow_succ]
  omega
theorem Bd.mul {k m : Nat} {i j : Int} (h : Bd k i) (g : Bd m j) : Bd (k + m) (i * j) := wide_lt h g
abbrev BIG : Nat := 400000
theorem big_mul {i j : Int} (h : Bd BIG i) (g : Bd BIG j) : CMulW i j := wide_mul h g (by decide) (by decide) (by decide)
section
variable {P : Program} {w : World} {K : PySem.W.Frag} {mg : Str → Option Value} {base : Heap}
theorem notFirst_of (T : Tx K mg) {t : Value} (h : TyT T t) : PySem.W.notFirst K T.C_Place t = true := by
  unfold PySem.W.notFirst
  rcases h with rfl | rfl | rfl | rfl | rfl | rfl | rfl | rfl
  · simp
  · rw [T.sb_NoneType_Place]; simp
  · rw [T.sb_bool_Place]; simp
  · rw [T.sb_int_Place]; simp
  · rw [T.sb_str_Place]; simp
  · rw [T.sb_list_Place]; simp
  · rw [T.sb_tuple_Place]; simp
  · rw [T.sb_dict_Place]; simp
theorem rt_of (T : Tx K mg) {t : Value} (h : TyT T t) : RtOk K T.C_Place .Mult t := by
  rcases h with rfl | rfl | rfl | rfl | rfl | rfl | rfl | rfl
  · exact .same
  · exact .ty rfl rfl T.sb_NoneType_Place
  · exact .ty rfl rfl T.sb_bool_Place
  · exact .ty rfl rfl T.sb_int_Place
  · exact .ty rfl rfl T.sb_str_Place
  · exact .ty rfl rfl T.sb_list_Place
  · exact .ty rfl rfl T.sb_tuple_Place
  · exact .ty rfl rfl T.sb_dict_Place
/-- v is no Place -/
def NoP (T : Tx K mg) (H : Hp) (v : V) : Prop := ∃ t, TyX K H v t ∧ TyT T t ∧ isP T t = false
theorem NoP.vl {T : Tx K mg} {H : Hp} {v : V} (h : NoP T H v) : Vl T H v := let ⟨t, a, b, _⟩ := h; ⟨t, a, b⟩
theorem NoP.mono {T : Tx K mg} {H H' : Hp} {v : V} (s : Same H H') (h : NoP T H v) : NoP T H' v := let ⟨t, a, b, c⟩ := h; ⟨t, TyX.mono s a, b, c⟩
/-- isinstance(v, Place): no -/
theorem kit_no (T : Tx K mg) {t : Value} (ht : TyT T t) (e : isP T t = false) : PySem.W.kitOne K t (.ref T.C_Place) = some false := by rw [kit_place T ht, e]
def sp_Place_eq (T : Tx K mg) : Sp := fun vs H Q _ => ∃ (p : Addr) (v : V) (x y a : Int), vs = [.ref p, v] ∧ PlAt T H p x y a ∧
  ((∃ q x' y' a', v = .ref q ∧ PlAt T H q x' y' a' ∧ Q (.bl (decide (x = x' ∧ y = y' ∧ a = a'))) H) ∨ (NoP T H v ∧ Q (.bl false) H))
theorem ok_Place_eq (T : Tx K mg) : FnOk P w K mg base (L2.CX P w) 1 T.a_Place_eq T.d_Place_eq P_Place_eq (sp_Place_eq T) := by
  refine T.F_Place_eq.okX sc_Place_eq (fun vs H Q E h => ?_) (fun cdv A outer s H vs Q E hr h => ?_)
  · obtain ⟨p, v, x, y, a, rfl, _⟩ := h
    rfl
  · obtain ⟨p, v, x, y, a, rfl, hp, k⟩ := h
    refine ⟨_, pss_one (ps_ret (pe_and (pe_callB call_isi rfl T.n_isinstance (by decide +kernel) (pa_cons (pv 1) (pa_cons (pe_glob (v := .ref T.C_Place) rfl T.g_C_Place rfl) pa_nil)))
      (pe_and (pe_cmp (pc_eqI (pe_fld (pv 0) rfl) (pe_fld (pv 1) rfl)) rfl) (pe_and (pe_cmp (pc_eqI (pe_fld (pv 0) rfl) (pe_fld (pv 1) rfl)) rfl) (pe_one (pe_cmp (pc_eqI (pe_fld (pv 0) rfl) (pe_fld (pv 1) rfl)) rfl)))))), ?_⟩
    obtain ⟨dx, ep⟩ := id hp
    rcases k with ⟨q, x', y', a', rfl, hq, k⟩ | ⟨⟨t, ty, ht, e⟩, k⟩
    · obtain ⟨dy, eq⟩ := id hq
      refine ⟨_, rfl, _, _, _, _, true, rfl, .own _, hq.ty, kit_self, _, rfl, iteT ?_⟩
      refine ⟨_, rfl, p, _, dx, _, _, rfl, ep, T.cl_Place, T.na_Place_x, flds_x x y a, _, rfl, q, _, dy, _, _, rfl, eq, T.cl_Place, T.na_Place_x, flds_x x' y' a', _, _, rfl, rfl, _, rfl, ?_⟩
      by_cases h1 : x = x'
      · refine ifT (decide_eq_true h1) ⟨_, rfl, p, _, dx, _, _, rfl, ep, T.cl_Place, T.na_Place_y, flds_y x y a, _, rfl, q, _, dy, _, _, rfl, eq, T.cl_Place, T.na_Place_y, flds_y x' y' a', _, _, rfl, rfl, _, rfl, ?_⟩
        by_cases h2 : y = y'
        · refine ifT (decide_eq_true h2) ⟨_, rfl, p, _, dx, _, _, rfl, ep, T.cl_Place, T.na_Place_area, flds_a x y a, _, rfl, q, _, dy, _, _, rfl, eq, T.cl_Place, T.na_Place_area, flds_a x' y' a', _, _, rfl, rfl, ?_⟩
          have e : decide (a = a') = decide (x = x' ∧ y = y' ∧ a = a') := by simp [h1, h2]
          rw [← e] at k
          exact k
        · refine ifN (decide_eq_false h2) ?_
          have e : decide (x = x' ∧ y = y' ∧ a = a') = false := by simp [h2]
          rw [e] at k
          exact k
      · refine ifN (decide_eq_false h1) ?_
        have e : decide (x = x' ∧ y = y' ∧ a = a') = false := by simp [h1]
        rw [e] at k
        exact k
    · exact ⟨_, rfl, _, _, _, _, false, rfl, .own _, ty, kit_no T ht e, _, rfl, iteF k⟩
def sp_check_place (T : Tx K mg) : Sp := fun vs H Q E => ∃ v, vs = [v] ∧ ((∃ q x y a, v = .ref q ∧ PlAt T H q x y a ∧ Q .non H) ∨ (NoP T H v ∧ Err H E T.C_BadPlace "value" v))
theorem ok_check_place (T : Tx K mg) : FnOk P w K mg base (L2.CX P w) 3 T.a_check_place T.d_check_place P_check_place (sp_check_place T) := by
  have G2 : FnOk P w K mg base (L2.CX P w) 1 _ _ _ _ := ok_BadPlace_init T
  refine T.F_check_place.okX sc_check_place (fun vs H Q E h => ?_) (fun cdv A outer s H vs Q E hr h => ?_)
  · obtain ⟨v, rfl, _⟩ := h
    rfl
  · obtain ⟨v, rfl, k⟩ := h
    refine ⟨_, pss_one (ps_if (pt_not (pt_val (pe_callB call_isi rfl T.n_isinstance (by decide +kernel) (pa_cons (pv 0) (pa_cons (pe_glob (v := .ref T.C_Place) rfl T.g_C_Place rfl) pa_nil)))))
      (pss_one (ps_raise rfl (takes_of rfl rfl rfl rfl) (pmk_oex T.X_BadPlace T.ei_BadPlace T.et_BadPlace G2 (hr.mono (by decide)) T.b_BadPlace_init .nil passL rfl T.g_C_BadPlace (by exact pa_cons (pv 0) pa_nil)))) pss_nil), ?_⟩
    rcases k with ⟨q, x', y', a', rfl, hq, k⟩ | ⟨⟨t, ty, ht, e⟩, k⟩
    · exact ⟨_, rfl, _, _, _, _, true, rfl, .own _, hq.ty, kit_self, _, rfl, iteF k⟩
    · refine ⟨_, rfl, _, _, _, _, false, rfl, .own _, ty, kit_no T ht e, _, rfl, iteT ?_⟩
      exact mk_einit (v := v) ⟨_, rfl, rfl, rfl⟩ k (fun Q Q' h1 ⟨x, e, h2⟩ => ⟨x, e, h1 _ _ h2⟩)
end
end AW

set_option linter.all false
set_option maxRecDepth 100000
set_option maxHeartbeats 4000000
namespace AW
open PySem PySem.Spec PyProof.Rows L2
variable [Tbs]
/-! ### sizes -/
theorem Bd.add2 {k m : Nat} {i j : Int} (h : Bd k i) (g : Bd m j) : Bd (k + m + 1) (i + j) := Bd.add (h.mono (Nat.le_add_right k m)) (g.mono (Nat.le_add_left m k))
theorem Bd.sub2 {k m : Nat} {i j : Int} (h : Bd k i) (g : Bd m j) : Bd (k + m + 1) (i - j) := Bd.sub (h.mono (Nat.le_add_right k m)) (g.mono (Nat.le_add_left m k))
theorem Bd.fdiv {k : Nat} {i j : Int} (h : Bd k i) : Bd k (i.fdiv j) := by
  unfold Bd at *
  have : (i.fdiv j).natAbs ≤ i.natAbs := Int.natAbs_fdiv_le_natAbs i j
  omega
theorem Bd.lit {i : Int} (k : Nat) (h : decide (i.natAbs < 2 ^ k) = true) : Bd k i := by unfold Bd; exact of_decide_eq_true h
theorem Bd.of_lt {k : Nat} {i n : Int} (h0 : 0 ≤ i) (h1 : i < n) (h : Bd k n) : Bd k i := by unfold Bd at *; omega
theorem Bd.of_le {k : Nat} {i n : Int} (h0 : -n ≤ i) (h1 : i ≤ n) (h : Bd k n) : Bd k i := by unfold Bd at *; omega
theorem cmc {i j : Int} (h : Bd BIG i) (g : Bd BIG j) : CMulW i j := big_mul h g
section
variable {P : Program} {w : World} {K : PySem.W.Frag} {mg : Str → Option Value} {base : Heap} {E E' : XK} {e : EW} {ρ : List (Option D)} {B : Int} {k : KD} {κ : KS} {ta tb : TE} {t : TA}
/-! ### places as data -/
def pl (T : Tx K mg) (x y a : Int) : D := .ins T.C_Place ["x", "y", "area"] [.int x, .int y, .int a]
theorem Rep.pl {T : Tx K mg} {G : Hp} {x y a : Int} {v : V} (h : Rep K G B (AW.pl T x y a) v) : ∃ p, v = .ref p ∧ PlAt T G p x y a := by
  obtain ⟨p, dx, vs, rfl, hp, hl, hr⟩ := h
  obtain ⟨_, _, rfl, rfl, _, _, rfl, rfl, _, _, rfl, rfl, rfl⟩ := hr
  exact ⟨p, rfl, dx, hp⟩
theorem Rep.of_pl {T : Tx K mg} {G : Hp} {x y a : Int} {p : Addr} (h : PlAt T G p x y a) : Rep K G B (AW.pl T x y a) (.ref p) := by
  obtain ⟨dx, hp⟩ := h
  exact ⟨p, dx, [.int x, .int y, .int a], rfl, hp, rfl, ⟨_, _, rfl, rfl, _, _, rfl, rfl, _, _, rfl, rfl, rfl⟩⟩
theorem PlAt.sub {T : Tx K mg} {G H : Hp} {x y a : Int} {p : Addr} (s : Sub G H) (h : PlAt T G p x y a) : PlAt T H p x y a := let ⟨dx, e⟩ := h; ⟨dx, s _ _ e⟩
theorem we_fx (T : Tx K mg) (h : We K E e ta ρ B fun d B1 => ∃ x y a, d = pl T x y a ∧ k (.int x) B1) : We K E e (tFld K ta "x") ρ B k :=
  we_fld (h.imp fun d B1 ⟨x, y, a, ed, hk⟩ => ⟨_, _, _, .int x, ed, T.cl_Place, T.na_Place_x, by simp [List.lookup], hk⟩)
theorem we_fy (T : Tx K mg) (h : We K E e ta ρ B fun d B1 => ∃ x y a, d = pl T x y a ∧ k (.int y) B1) : We K E e (tFld K ta "y") ρ B k :=
  we_fld (h.imp fun d B1 ⟨x, y, a, ed, hk⟩ => ⟨_, _, _, .int y, ed, T.cl_Place, T.na_Place_y, by
    have h1 : (("y" : Str) == "x") = false := by decide +kernel
    simp [List.lookup, h1], hk⟩)
theorem we_fa (T : Tx K mg) (h : We K E e ta ρ B fun d B1 => ∃ x y a, d = pl T x y a ∧ k (.int a) B1) : We K E e (tFld K ta "area") ρ B k :=
  we_fld (h.imp fun d B1 ⟨x, y, a, ed, hk⟩ => ⟨_, _, _, .int a, ed, T.cl_Place, T.na_Place_area, by
    have h1 : (("area" : Str) == "x") = false := by decide +kernel
    have h2 : (("area" : Str) == "y") = false := by decide +kernel
    simp [List.lookup, h1, h2], hk⟩)
def core : D → D
  | .at_ _ d => core d
  | .tb d => core d
  | d => d
theorem Rep.core {G : Hp} : ∀ {d : D} {v : V}, Rep K G B d v → Rep K G B (AW.core d) v
  | .at_ _ d, _, ⟨_, h⟩ => Rep.core (d := d) h
  | .tb d, _, ⟨_, h⟩ => Rep.core (d := d) h
  | .non, _, h => h
  | .bl _, _, h => h
  | .int _, _, h => h
  | .str _, _, h => h
  | .tup _, _, h => h
  | .lst _, _, h => h
  | .ins _ _ _, _, h => h
  | .pen _ _, _, h => h
  | .scr _, _, h => h
  | .val _, _, h => h
  | .lam _ _, _, h => h
  | .edk, _, h => h
  | .dk _ _, _, h => h
/-- no object of a class of one's own -/
def plainD : D → Bool
  | .ins _ _ _ => false
  | .pen _ _ => false
  | .scr _ => false
  | .val _ => false
  | .lam _ _ => false
  | .dk _ _ => false
  | .at_ _ d => plainD d
  | .tb d => plainD d
  | _ => true
theorem tyx_tup {K : PySem.W.Frag} {H : Hp} {a : Addr} {xs : List V} (h : SqT K H a xs) : TyX K H (.ref a) (.type "tuple") := by
  rcases h with (h | ⟨o, h⟩) | ⟨o, its, n, hk, hc, _⟩
  · exact .base (.tup h)
  · exact .fTuple h
  · exact .kTuple hk hc
theorem Rep.nop {T : Tx K mg} {G H : Hp} (s : Sub G H) : ∀ {d : D} {v : V}, Rep K G B d v → plainD d = true → NoP T H v
  | .non, _, h, _ => by rw [show _ = _ from h]; exact ⟨_, .base .non, .inr (.inl rfl), rfl⟩
  | .bl b, _, h, _ => by rw [show _ = _ from h]; exact ⟨_, .base (.bl b), .inr (.inr (.inl rfl)), rfl⟩
  | .int i, _, h, _ => by rw [show _ = _ from h]; exact ⟨_, .base (.int i), .inr (.inr (.inr (.inl rfl))), rfl⟩
  | .str i, _, h, _ => by rw [show _ = _ from h]; exact ⟨_, .base (.str i), .inr (.inr (.inr (.inr (.inl rfl)))), rfl⟩
  | .lst _, _, ⟨a, vs, e, h, hr⟩, _ => by rw [e]; exact ⟨_, .base (.lst (s _ _ h)), .inr (.inr (.inr (.inr (.inr (.inl rfl))))), rfl⟩
  | .tup _, _, ⟨a, vs, e, h, hr⟩, _ => by rw [e]; exact ⟨_, tyx_tup ((Le.of_sub (B := B) (B' := B) s (Int.le_refl _)).seqT h), .inr (.inr (.inr (.inr (.inr (.inr (.inl rfl)))))), rfl⟩
  | .ins _ _ _, _, _, o => nomatch o
  | .pen _ _, _, _, o => nomatch o
  | .scr _, _, _, o => nomatch o
  | .val _, _, _, o => nomatch o
  | .lam _ _, _, _, o => nomatch o
  | .dk _ _, _, _, o => nomatch o
  | .at_ _ d, _, ⟨_, h⟩, o => Rep.nop s (d := d) h o
  | .tb d, _, ⟨_, h⟩, o => Rep.nop s (d := d) h o
  | .edk, _, ⟨a, e, h⟩, _ => by rw [e]; exact ⟨_, .base (.dK (s _ _ h)), .inr (.inr (.inr (.inr (.inr (.inr (.inr rfl)))))), rfl⟩
/-- a wish for an error of one field -/
theorem Err.ofX {H G : Hp} {C : Addr} {f : Str} {d : D} {v : V} (s : Sub G H) (r : Rep K G B d v) (x : XOk K E e G H B) (h : e C (some ([f], [d])) B) : Err H E C f v := fun dx H' ss nd hd => by
  have e1 : Ext G H B G H' B := ⟨Le.refl _ _, fun a o z => ss _ _ (s _ _ z), fun a o z n _ => ⟨ss _ _ z, n⟩⟩
  exact x C _ B G H' h e1 dx [v] hd rfl ⟨v, [], rfl, r, rfl⟩
def pr_check_place (T : Tx K mg) : Pr := fun ds B k e => ∃ d, ds = [d] ∧ ((∃ x y a, core d = pl T x y a ∧ k .non B) ∨ (plainD d = true ∧ e T.C_BadPlace (some (["value"], [d])) B))
theorem okD_check_place (T : Tx K mg) : FnOk P w K mg base (L2.CX P w) 3 T.a_check_place T.d_check_place P_check_place (spD K (pr_check_place T)) :=
  (ok_check_place T).imp fun vs H Q E ⟨G, ds, B, k, e, hs, hr, ⟨d, ed, h⟩, hk, hx⟩ => by
    subst ed
    obtain ⟨v, _, rfl, rv, rfl⟩ := hr
    refine ⟨v, rfl, ?_⟩
    rcases h with ⟨x, y, a, ec, h⟩ | ⟨h1, h2⟩
    · have rc := rv.core
      rw [ec] at rc
      obtain ⟨p, rfl, hp⟩ := rc.pl
      exact .inl ⟨p, x, y, a, rfl, hp.sub hs, hk _ _ _ _ _ h (Ext.refl hs) rfl⟩
    · exact .inr ⟨rv.nop hs h1, Err.ofX hs rv hx h2⟩
def intD : D → Bool
  | .int _ => true
  | .val v => AW.intV v
  | .at_ _ d => intD d
  | .tb d => intD d
  | _ => false
theorem Rep.intV {G : Hp} : ∀ {d : D} {v : V}, Rep K G B d v → AW.intV v = intD d
  | .non, _, h => by rw [show _ = _ from h]; rfl
  | .bl b, _, h => by rw [show _ = _ from h]; rfl
  | .int i, _, h => by rw [show _ = _ from h]; rfl
  | .str i, _, h => by rw [show _ = _ from h]; rfl
  | .lst _, _, ⟨a, vs, e, h, hr⟩ => by rw [e]; rfl
  | .tup _, _, ⟨a, vs, e, h, hr⟩ => by rw [e]; rfl
  | .ins _ _ _, _, ⟨a, dx, vs, e, _⟩ => by rw [e]; rfl
  | .pen _ _, _, ⟨_, a, _, _, _, _, e, _⟩ => by rw [e]; rfl
  | .scr _, _, ⟨_, a, e, _⟩ => by rw [e]; rfl
  | .lam _ _, _, ⟨f, d, e, _⟩ => by rw [e]; rfl
  | .dk _ _, _, ⟨a, _, e, _⟩ => by rw [e]; rfl
  | .at_ _ d, _, ⟨_, h⟩ => Rep.intV (d := d) h
  | .tb d, _, ⟨_, h⟩ => Rep.intV (d := d) h
  | .edk, _, ⟨a, e, _⟩ => by rw [e]; rfl
  | .val _, _, h => by rw [show _ = _ from h]; rfl
def plD (T : Tx K mg) (d : D) : Prop := plainD d = true ∨ ∃ x y a, core d = pl T x y a
theorem Rep.vl {T : Tx K mg} {G H : Hp} {d : D} {v : V} (s : Sub G H) (r : Rep K G B d v) (h : plD T d) : Vl T H v := by
  rcases h with h | ⟨x, y, a, ec⟩
  · exact (r.nop s h).vl
  · have rc := r.core
    rw [ec] at rc
    obtain ⟨p, rfl, hp⟩ := rc.pl
    exact (hp.sub s).vl
def pr_is_integer (T : Tx K mg) : Pr := fun ds B k e => ∃ d, ds = [d] ∧ plD T d ∧ k (.bl (intD d)) B
theorem okD_is_integer (T : Tx K mg) : FnOk P w K mg base (L2.CX P w) 1 T.a_is_integer T.d_is_integer P_is_integer (spD K (pr_is_integer T)) :=
  (ok_is_integer T).imp fun vs H Q E ⟨G, ds, B, k, e, hs, hr, ⟨d, ed, hd, h⟩, hk, hx⟩ => by
    subst ed
    obtain ⟨v, _, rfl, rv, rfl⟩ := hr
    refine ⟨v, rfl, rv.vl hs hd, ?_⟩
    rw [rv.intV]
    exact hk _ _ _ _ _ h (Ext.refl hs) rfl
def pr_check_integer (T : Tx K mg) : Pr := fun ds B k e => ∃ d, ds = [d] ∧ plD T d ∧ (intD d = true → k .non B) ∧ (intD d = false → e T.C_BadNumber (some (["value"], [d])) B)
theorem okD_check_integer (T : Tx K mg) : FnOk P w K mg base (L2.CX P w) 3 T.a_check_integer T.d_check_integer P_check_integer (spD K (pr_check_integer T)) :=
  (ok_check_integer T).imp fun vs H Q E ⟨G, ds, B, k, e, hs, hr, ⟨d, ed, hd, h1, h2⟩, hk, hx⟩ => by
    subst ed
    obtain ⟨v, _, rfl, rv, rfl⟩ := hr
    refine ⟨v, rfl, rv.vl hs hd, fun z => ?_, fun z => ?_⟩
    · rw [rv.intV] at z
      exact hk _ _ _ _ _ (h1 z) (Ext.refl hs) rfl
    · rw [rv.intV] at z
      exact Err.ofX hs rv hx (h2 z)
def pr_Place_init : List D → Int → (List D → Int → Prop) → EW → Prop := fun ds B k e => ∃ x y a : Int, ds = [.int x, .int y, .int a] ∧ k [.int x, .int y, .int a] B
theorem okD_Place_init (T : Tx K mg) : FnOk P w K mg base (L2.CX P w) 4 T.a_Place_init T.d_Place_init P_Place_init (spI K T.C_Place ["x", "y", "area"] pr_Place_init) :=
  (ok_Place_init T).imp fun vs H Q E ⟨p, dx, ws, G, ds, B, k, e, ev, hp, gp, gd, ne, hd, hs, hr, ⟨x, y, a, ed, h⟩, hk, hx⟩ => by
    subst ed
    subst ev
    obtain ⟨_, _, rfl, rfl, _, _, rfl, rfl, _, _, rfl, rfl, rfl⟩ := hr
    refine ⟨p, dx, _, _, _, rfl, hp, .int _, .int _, .int _, .inl ⟨x, y, a, rfl, rfl, rfl, fun H' s z => ?_⟩⟩
    exact hk _ [.int x, .int y, .int a] B G H' h (Le.refl _ _) (fun b o q => s b o (ne_of_none q gp) (hs _ _ q)) (fun b o q n nb _ => ⟨s b o nb q, n⟩) gp z rfl ⟨_, _, rfl, rfl, _, _, rfl, rfl, _, _, rfl, rfl, rfl⟩
def pr_Place_eq (T : Tx K mg) : Pr := fun ds B k e => ∃ x y a d, ds = [pl T x y a, d] ∧ ((∃ x' y' a', d = pl T x' y' a' ∧ k (.bl (decide (x = x' ∧ y = y' ∧ a = a'))) B) ∨ (plainD d = true ∧ k (.bl false) B))
theorem okD_Place_eq (T : Tx K mg) : FnOk P w K mg base (L2.CX P w) 1 T.a_Place_eq T.d_Place_eq P_Place_eq (spD K (pr_Place_eq T)) :=
  (ok_Place_eq T).imp fun vs H Q E ⟨G, ds, B, k, e, hs, hr, ⟨x, y, a, d, ed, h⟩, hk, hx⟩ => by
    subst ed
    obtain ⟨v, _, rfl, rv, u, _, rfl, ru, rfl⟩ := hr
    obtain ⟨p, rfl, hp⟩ := rv.pl
    refine ⟨p, u, x, y, a, rfl, hp.sub hs, ?_⟩
    rcases h with ⟨x', y', a', rfl, h⟩ | ⟨h1, h2⟩
    · obtain ⟨q, rfl, hq⟩ := ru.pl
      exact .inl ⟨q, x', y', a', rfl, hq.sub hs, hk _ _ _ _ _ h (Ext.refl hs) rfl⟩
    · exact .inr ⟨ru.nop hs h1, hk _ _ _ _ _ h2 (Ext.refl hs) rfl⟩
variable {pr : Pr}
/-- an own operator of a place -/
theorem ro_own (T : Tx K mg) {x y a x' y' a' : Int} (h : pr [pl T x y a, pl T x' y' a'] B k noE) : Ro K E e (rOpO K T.C_Place .Mult (spD K pr) E') (pl T x y a) (pl T x' y' a') B k := fun u v H G Q s r1 r2 _ q => by
  obtain ⟨p, rfl, dx, hp⟩ := r1.pl
  obtain ⟨p', rfl, hp'⟩ := r2.pl
  exact ⟨p, dx, _, _, rfl, s _ _ hp, (hp'.sub s).ty, .same, G, [pl T x y a, pl T x' y' a'], B, k, noE, s, ⟨_, _, rfl, r1, _, _, rfl, r2, rfl⟩, h, q, XOk.no⟩
theorem ro_ownEq (T : Tx K mg) {g : Bool → Bool} {x y a x' y' a' : Int} (h : pr [pl T x y a, pl T x' y' a'] B (fun d B' => ∃ b, d = .bl b ∧ k (.bl (g b)) B') noE) : Ro K E e (rEqO K T.C_Place (spD K pr) E' g) (pl T x y a) (pl T x' y' a') B k := fun u v H G Q s r1 r2 _ q => by
  obtain ⟨p, rfl, dx, hp⟩ := r1.pl
  obtain ⟨p', rfl, hp'⟩ := r2.pl
  refine ⟨p, dx, _, _, rfl, s _ _ hp, (hp'.sub s).ty, notFirst_of T (.inl rfl), G, [pl T x y a, pl T x' y' a'], B, _, noE, s, ⟨_, _, rfl, r1, _, _, rfl, r2, rfl⟩, h, fun d v B' G' H' hz ee rr => ?_, XOk.no⟩
  obtain ⟨b, rfl, hz⟩ := hz
  exact ⟨b, rr, q _ _ _ _ _ hz ee rfl⟩
theorem we_inv (T : Tx K mg) (h : We K E e ta ρ B fun d B1 => ∃ x y a, d = pl T x y a ∧ pr [pl T x y a] B1 k noE) : We K E e (tUn (rUnO T.C_Place (spD K pr) E') ta) ρ B k :=
  we_un (h.imp fun d B1 ⟨x, y, a, ed, hk⟩ u H G Q s r xo q => by
    subst ed
    obtain ⟨p, rfl, dx, hp⟩ := r.pl
    exact ⟨p, dx, _, rfl, s _ _ hp, G, [pl T x y a], B1, k, noE, s, ⟨_, _, rfl, r, rfl⟩, hk, q, XOk.no⟩)
theorem we_place (T : Tx K mg) (h : Wa K E e t ρ B fun ds B1 => ∃ x y a : Int, ds = [.int x, .int y, .int a] ∧ k (pl T x y a) B1) : We K E e (tMake T.C_Place (spI K T.C_Place ["x", "y", "area"] pr_Place_init) [] E' t) ρ B k :=
  we_make fun σ H G Q s en x q => h σ H G Q s en x fun ds vs B1 G1 H1 ⟨x, y, a, ed, hk⟩ e1 r1 => q ds vs B1 G1 H1 ⟨x, y, a, ed, hk⟩ e1 r1
/-! ### kinds of values -/
def isIB : D → Bool
  | .int _ => true
  | .bl _ => true
  | .at_ _ d => isIB d
  | .tb d => isIB d
  | _ => false
def isBB : D → Bool
  | .bl _ => true
  | .at_ _ d => isBB d
  | .tb d => isBB d
  | _ => false
theorem Rep.isIB {T : Tx K mg} {G H : Hp} (s : Sub G H) : ∀ {d : D} {v : V}, Rep K G B d v → plainD d = true → ∃ ty, TyX K H v ty ∧ TyT T ty ∧ isI ty = AW.isIB d ∧ isB ty = AW.isBB d ∧ isP T ty = false
  | .non, _, h, _ => by rw [show _ = _ from h]; exact ⟨_, .base .non, .inr (.inl rfl), rfl, rfl, rfl⟩
  | .bl b, _, h, _ => by rw [show _ = _ from h]; exact ⟨_, .base (.bl b), .inr (.inr (.inl rfl)), rfl, rfl, rfl⟩
  | .int i, _, h, _ => by rw [show _ = _ from h]; exact ⟨_, .base (.int i), .inr (.inr (.inr (.inl rfl))), rfl, rfl, rfl⟩
  | .str i, _, h, _ => by rw [show _ = _ from h]; exact ⟨_, .base (.str i), .inr (.inr (.inr (.inr (.inl rfl)))), rfl, rfl, rfl⟩
  | .lst _, _, ⟨a, vs, e, h, hr⟩, _ => by rw [e]; exact ⟨_, .base (.lst (s _ _ h)), .inr (.inr (.inr (.inr (.inr (.inl rfl))))), rfl, rfl, rfl⟩
  | .tup _, _, ⟨a, vs, e, h, hr⟩, _ => by rw [e]; exact ⟨_, tyx_tup ((Le.of_sub (B := B) (B' := B) s (Int.le_refl _)).seqT h), .inr (.inr (.inr (.inr (.inr (.inr (.inl rfl)))))), rfl, rfl, rfl⟩
  | .dk _ _, _, _, o => nomatch o
  | .at_ _ d, _, ⟨_, h⟩, o => Rep.isIB s (d := d) h o
  | .tb d, _, ⟨_, h⟩, o => Rep.isIB s (d := d) h o
  | .edk, _, ⟨a, e, h⟩, _ => by rw [e]; exact ⟨_, .base (.dK (s _ _ h)), .inr (.inr (.inr (.inr (.inr (.inr (.inr rfl)))))), rfl, rfl, rfl⟩
  | .ins _ _ _, _, _, o => nomatch o
  | .pen _ _, _, _, o => nomatch o
  | .scr _, _, _, o => nomatch o
  | .val _, _, _, o => nomatch o
  | .lam _ _, _, _, o => nomatch o
theorem we_isi_Place (T : Tx K mg) (h : Wa K E e t ρ B fun ds B1 => ∃ d, ds = [d, .val (.ref T.C_Place)] ∧ ((plainD d = true ∧ k (.bl false) B1) ∨ ((∃ x y a, core d = pl T x y a) ∧ k (.bl true) B1))) : We K E e (tCB (rIsi K) t) ρ B k :=
  we_cb fun σ H G Q s en x q => h σ H G Q s en x fun ds vs B1 G1 H1 ⟨d, ed, h1⟩ e1 r1 => q ds vs B1 G1 H1 (fun ws H2 G2 Q2 s2 r2 q2 => by
    subst ed
    obtain ⟨v, _, rfl, rv, c, _, rfl, rc, rfl⟩ := r2
    rw [show c = _ from rc]
    rcases h1 with ⟨p, hk⟩ | ⟨⟨x, y, a, ec⟩, hk⟩
    · obtain ⟨ty, y1, y2, _, _, y5⟩ := rv.isIB (T := T) s2 p
      exact ⟨_, _, _, _, false, rfl, .own _, y1, kit_no T y2 y5, q2 _ _ _ _ _ hk (Ext.refl s2) rfl⟩
    · have rr := rv.core
      rw [ec] at rr
      obtain ⟨p, rfl, hp⟩ := rr.pl
      exact ⟨_, _, _, _, true, rfl, .own _, (hp.sub s2).ty, kit_self, q2 _ _ _ _ _ hk (Ext.refl s2) rfl⟩) e1 r1
theorem we_isi_int (T : Tx K mg) (h : Wa K E e t ρ B fun ds B1 => ∃ d, ds = [d, .val (.ty "int")] ∧ plainD d = true ∧ k (.bl (isIB d)) B1) : We K E e (tCB (rIsi K) t) ρ B k :=
  we_cb fun σ H G Q s en x q => h σ H G Q s en x fun ds vs B1 G1 H1 ⟨d, ed, p, hk⟩ e1 r1 => q ds vs B1 G1 H1 (fun ws H2 G2 Q2 s2 r2 q2 => by
    subst ed
    obtain ⟨v, _, rfl, rv, c, _, rfl, rc, rfl⟩ := r2
    rw [show c = _ from rc]
    obtain ⟨ty, y1, y2, y3, _, _⟩ := rv.isIB (T := T) s2 p
    exact ⟨_, _, _, _, _, rfl, .ty _, y1, kit_int T y2, q2 (.bl _) _ _ _ _ (y3 ▸ hk) (Ext.refl s2) rfl⟩) e1 r1
theorem we_isi_bool (T : Tx K mg) (h : Wa K E e t ρ B fun ds B1 => ∃ d, ds = [d, .val (.ty "bool")] ∧ plainD d = true ∧ k (.bl (isBB d)) B1) : We K E e (tCB (rIsi K) t) ρ B k :=
  we_cb fun σ H G Q s en x q => h σ H G Q s en x fun ds vs B1 G1 H1 ⟨d, ed, p, hk⟩ e1 r1 => q ds vs B1 G1 H1 (fun ws H2 G2 Q2 s2 r2 q2 => by
    subst ed
    obtain ⟨v, _, rfl, rv, c, _, rfl, rc, rfl⟩ := r2
    rw [show c = _ from rc]
    obtain ⟨ty, y1, y2, _, y4, _⟩ := rv.isIB (T := T) s2 p
    exact ⟨_, _, _, _, _, rfl, .ty _, y1, kit_bool T y2, q2 (.bl _) _ _ _ _ (y4 ▸ hk) (Ext.refl s2) rfl⟩) e1 r1
/-- raise C(d), C with one field -/
theorem ws_raise1 {C : Addr} {f : Str} (h : Wa K E e t ρ B fun ds B1 => ∃ d, ds = [d] ∧ e C (some ([f], [d])) B1) : Ws K E e (fun _ σ H => tMkO C (sp_einit C f) [] t σ H fun cls d H' => E cls d H') ρ B κ := fun σ H G Dn s en x q =>
  h σ H G _ s en x fun ds vs B1 G1 H1 ⟨d, ed, he⟩ e1 r1 => by
    subst ed
    obtain ⟨v, _, rfl, rv, rfl⟩ := r1
    exact mk_einit (σ := σ) (ta := fun _ H Q => Q [v] H) ⟨rfl, rfl⟩ (Err.ofX e1.sub rv (x.ext e1) he) fun Q Q' h1 h2 => h1 _ _ h2
end
end AW

set_option linter.all false
set_option maxRecDepth 100000
set_option maxHeartbeats 4000000
namespace AW
open PySem PySem.Spec PyProof.Rows L2
/-! ### the pen -/
abbrev kC : Key := Sum.inr "cells"
abbrev kS : Key := Sum.inr "count"
abbrev kR : Key := Sum.inr "left"
theorem kCS : ¬ (kC = kS) := by decide +kernel
theorem kCR : ¬ (kC = kR) := by decide +kernel
theorem kSR : ¬ (kS = kR) := by decide +kernel
theorem kSC : ¬ (kS = kC) := by decide +kernel
theorem kRC : ¬ (kR = kC) := by decide +kernel
theorem kRS : ¬ (kR = kS) := by decide +kernel
def penD (c : Addr) (s r : Int) : List (Key × V) := [(kC, .ref c), (kS, .int s), (kR, .int r)]
theorem pen_c (c : Addr) (s r : Int) : valV (penD c s r) kC = some (.ref c) := valV_pos rfl
theorem pen_s (c : Addr) (s r : Int) : valV (penD c s r) kS = some (.int s) := (valV_neg kCS).trans (valV_pos rfl)
theorem pen_r (c : Addr) (s r : Int) : valV (penD c s r) kR = some (.int r) := (valV_neg kCR).trans ((valV_neg kSR).trans (valV_pos rfl))
theorem pen_ps (c : Addr) (s r z : Int) : putK (penD c s r) kS (.int z) = penD c z r := by
  unfold putK
  rw [if_pos (by rw [valV_any, pen_s]; rfl)]
  show [if kC = kS then (kC, V.int z) else (kC, V.ref c), if kS = kS then (kS, V.int z) else (kS, V.int s), if kR = kS then (kR, V.int z) else (kR, V.int r)] = penD c z r
  rw [if_neg kCS, if_pos rfl, if_neg kRS]
  rfl
theorem pen_pr (c : Addr) (s r z : Int) : putK (penD c s r) kR (.int z) = penD c s z := by
  unfold putK
  rw [if_pos (by rw [valV_any, pen_r]; rfl)]
  show [if kC = kR then (kC, V.int z) else (kC, V.ref c), if kS = kR then (kS, V.int z) else (kS, V.int s), if kR = kR then (kR, V.int z) else (kR, V.int r)] = penD c s z
  rw [if_neg kCR, if_neg kSR, if_pos rfl]
  rfl
theorem pen_mk (c : Addr) (s r : Int) : mergeK [] [(kC, .ref c), (kS, .int s), (kR, .int r)] = penD c s r := by
  unfold mergeK
  show putK (putK (putK [] kC (.ref c)) kS (.int s)) kR (.int r) = penD c s r
  rw [putK_new _ valV_nil]
  rw [putK_new _ (show valV ([] ++ [(kC, V.ref c)]) kS = none from valV_neg kCS)]
  rw [putK_new _ (show valV ([] ++ [(kC, V.ref c)] ++ [(kS, V.int s)]) kR = none from (valV_neg kCR).trans (valV_neg kSR))]
  rfl
/-- the pen at p: its cells, at most 63 ints; no more than B stops so far -/
structure Pen (H : Hp) (p : Addr) (B : Int) : Prop where
  at_ : ∃ (c : Addr) (ns : List Int) (s r : Int), H p = some (.dK (penD c s r)) ∧ H c = some (.lst (ns.map V.int)) ∧ ns.length ≤ 63 ∧ 0 ≤ s ∧ s ≤ B
theorem dg_c {H : Hp} {p c : Addr} {s r : Int} (e : H p = some (.dK (penD c s r))) : DGet H p (.str "cells") (some (.ref c)) := by
  have h := DGet.k (k := kC) e
  rw [pen_c] at h
  exact h
theorem dg_s {H : Hp} {p c : Addr} {s r : Int} (e : H p = some (.dK (penD c s r))) : DGet H p (.str "count") (some (.int s)) := by
  have h := DGet.k (k := kS) e
  rw [pen_s] at h
  exact h
theorem dg_r {H : Hp} {p c : Addr} {s r : Int} (e : H p = some (.dK (penD c s r))) : DGet H p (.str "left") (some (.int r)) := by
  have h := DGet.k (k := kR) e
  rw [pen_r] at h
  exact h
theorem dp_s {H : Hp} {p c : Addr} {s r z : Int} (e : H p = some (.dK (penD c s r))) : DPut H p (.str "count") (.int z) (upd H p (.dK (penD c z r))) := by
  have h := DPut.k (k := kS) (v := .int z) e (by show 3 < sizeLine; decide)
  rw [pen_ps] at h
  exact h
theorem dp_r {H : Hp} {p c : Addr} {s r z : Int} (e : H p = some (.dK (penD c s r))) : DPut H p (.str "left") (.int z) (upd H p (.dK (penD c s z))) := by
  have h := DPut.k (k := kR) (v := .int z) e (by show 3 < sizeLine; decide)
  rw [pen_pr] at h
  exact h
/-- all but the pen stays -/
structure But (p : Addr) (H H' : Hp) : Prop where
  st : ∀ b o, b ≠ p → H b = some o → H' b = some o
  cl : ∀ c s r, H p = some (.dK (penD c s r)) → ∃ s' r', H' p = some (.dK (penD c s' r'))
theorem But.refl {p : Addr} (H : Hp) : But p H H := ⟨fun _ _ _ h => h, fun _ s r h => ⟨s, r, h⟩⟩
theorem But.trans {p : Addr} {H H1 H2 : Hp} (a : But p H H1) (b : But p H1 H2) : But p H H2 :=
  ⟨fun c o n h => b.st c o n (a.st c o n h), fun c s r h => by
    obtain ⟨s1, r1, h1⟩ := a.cl c s r h
    exact b.cl c s1 r1 h1⟩
theorem But.of {p : Addr} {H H' : Hp} (s : Same H H') : But p H H' := ⟨fun b o _ h => s b o h, fun c z r h => ⟨z, r, s _ _ h⟩⟩
theorem penD_inj {c c' : Addr} {s r s' r' : Int} (h : penD c s r = penD c' s' r') : c = c' := by
  injection h with h1 _
  injection h1 with _ h2
  injection h2
theorem But.upd {p c : Addr} {z r z' r' : Int} {H H' : Hp} (s : But p H H') (e : H' p = some (.dK (penD c z r))) : But p H (upd H' p (.dK (penD c z' r'))) :=
  ⟨fun b u n h => by rw [upd_ne n]; exact s.st b u n h, fun c2 s2 r2 h => by
    obtain ⟨s3, r3, h3⟩ := s.cl c2 s2 r2 h
    rw [e] at h3
    injection h3 with h3
    injection h3 with h3
    rw [penD_inj h3] at *
    exact ⟨z', r', upd_same⟩⟩
theorem But.new {p q : Addr} {H H' : Hp} {o : HO} (s : But p H H') (h : H' q = none) : But p H (L2.upd H' q o) :=
  ⟨fun b u n e => by
    have e' := s.st b u n e
    rw [upd_ne (ne_of_none e' h)]
    exact e', fun c z r e => by
    obtain ⟨z1, r1, e1⟩ := s.cl c z r e
    exact ⟨z1, r1, by rw [upd_ne (ne_of_none e1 h)]; exact e1⟩⟩
theorem Pen.mono {H H' : Hp} {p : Addr} {B B' : Int} (h : Pen H p B) (l : B ≤ B') (s : Same H H') : Pen H' p B' := by
  obtain ⟨c, ns, z, r, e1, e2, h1, h2, h3⟩ := h.at_
  exact ⟨⟨c, ns, z, r, s _ _ e1, s _ _ e2, h1, h2, Int.le_trans h3 l⟩⟩
theorem Pen.le {H : Hp} {p : Addr} {B B' : Int} (h : Pen H p B) (l : B ≤ B') : Pen H p B' := h.mono l (Same.refl H)
theorem fmod_in {a b : Int} (h : 0 < b) : 0 ≤ a.fmod b ∧ a.fmod b < b := ⟨Int.fmod_nonneg_of_pos a h, Int.fmod_lt_of_pos a h⟩
section
variable {P : Program} {w : World} {K : PySem.W.Frag} {mg : Str → Option Value} {base : Heap}
def sp_l_begin (T : Tx K mg) : Sp := fun vs H Q E => ∃ (a : Addr) (ns : List Int), vs = [.ref a] ∧ SqL K H a (ns.map V.int) ∧ ns.length ≤ 63 ∧ ∀ p c H', Same H H' → H p = none → H c = none → c ≠ p → H' p = some (.dK (penD c 0 0)) → H' c = some (.lst (ns.map V.int)) → Q (.ref p) H'
theorem ok_l_begin (T : Tx K mg) : FnOk P w K mg base (L2.CX P w) 1 T.a_l_begin T.d_l_begin P_l_begin (sp_l_begin T) := by
  refine T.F_l_begin.okX sc_l_begin (fun vs H Q E h => ?_) (fun cdv A outer s H vs Q E hr h => ?_)
  · obtain ⟨a, ns, rfl, _⟩ := h
    rfl
  · obtain ⟨a, ns, rfl, hS, hlen, k⟩ := h
    refine ⟨_, pss_one (ps_ret (pe_disp (pps_cons pe_str (pe_callTy call_list_of rfl T.n_list (by decide +kernel) (pa_cons (pe_slice sl_list (pv 0) po_none (po_some pe_int)) pa_nil))
      (pps_cons pe_str pe_int (pps_cons pe_str pe_int pps_nil))) (by rfl) (by rfl) (fun z => by cases z) (by decide))), ?_⟩
    refine fun p np => ?_
    have s1 : Same H (upd H p (.dK [])) := Same.laid np
    refine ⟨_, rfl, _, rfl, a, _, rfl, s1.seq hS, fun q nq => ⟨q, _, rfl, .inl (.of upd_same), fun l nl => ?_⟩⟩
    have npq : p ≠ q := ne_of_none upd_same nq
    have nql : q ≠ l := ne_of_none upd_same nl
    have npl : p ≠ l := ne_of_none (by rw [upd_ne npq]; exact upd_same) nl
    refine ⟨by rw [upd_ne npl, upd_ne npq, upd_same], [(kC, .ref l), (kS, .int 0), (kR, .int 0)], rfl, (by show 3 ≤ 15; decide), ?_⟩
    have hcut : cutV (ns.map V.int) none (some 63) = ns.map V.int := by
      unfold cutV
      have e1 : HT.sIx (ns.map V.int).length 0 none = 0 := rfl
      have e2 : (ns.map V.int).length ≤ 63 := by rw [List.length_map]; exact hlen
      rw [e1]
      show ((ns.map V.int).drop 0).take _ = _
      rw [List.drop_zero, List.take_of_length_le]
      have e3 : HT.sIx (ns.map V.int).length (ns.map V.int).length (some 63) = (ns.map V.int).length := by
        simp [HT.sIx]
        omega
      rw [e3]
      omega
    have sF : Same H (upd (upd (upd (upd H p (.dK [])) q (.lst (cutV (ns.map V.int) none (some 63)))) l (.lst (cutV (ns.map V.int) none (some 63)))) p (.dK (mergeK [] [(kC, .ref l), (kS, .int 0), (kR, .int 0)]))) := fun b o e => by
      have nb : b ≠ p := ne_of_none e np
      have e1 : upd H p (.dK []) b = some o := by rw [upd_ne nb]; exact e
      have nq' : b ≠ q := ne_of_none e1 nq
      have e2 : upd (upd H p (.dK [])) q (.lst (cutV (ns.map V.int) none (some 63))) b = some o := by rw [upd_ne nq']; exact e1
      rw [upd_ne nb, upd_ne (ne_of_none e2 nl)]
      exact e2
    have nl0 : H l = none := by
      cases z : H l with
      | none => rfl
      | some u =>
        have z1 := s1 _ _ z
        have nql' : l ≠ q := fun w => by rw [w, nq] at z1; cases z1
        rw [upd_ne nql', z1] at nl
        cases nl
    refine k p l _ sF np nl0 npl.symm ?_ ?_
    · rw [pen_mk]; exact upd_same
    · rw [upd_ne npl.symm, upd_same, hcut]
end
end AW

set_option linter.all false
set_option maxRecDepth 100000
set_option maxHeartbeats 8000000
namespace AW
open PySem PySem.Spec PyProof.Rows L2
section
variable {P : Program} {w : World} {K : PySem.W.Frag} {mg : Str → Option Value} {base : Heap}
theorem dp_ints {K : PySem.W.Frag} {H : Hp} : ∀ ms : List Int, DpAll K H (ms.map V.int) (ms.map PyData.int)
  | [] => .nil
  | m :: r => .cons (.int m) (dp_ints r)
theorem sh_ints (ms : List Int) : SeqAt.shaped (.list (ms.map PyData.int)) = true := PySem.W.ke_shaped_ints ms
/-- a drawn number, the pen a stop further at most -/
def Drawn (H : Hp) (Q : VK) (p : Addr) (B : Int) (ok : Int → Prop) : Prop := ∀ (d : Int) (H' : Hp), ok d → But p H H' → Pen H' p B → Q (.int d) H'
def sp_l_draw (T : Tx K mg) : Sp := fun vs H Q E => ∃ (p : Addr) (n B : Int), vs = [.ref p, .int n] ∧ 0 < n ∧ n < 1073741824 ∧ Pen H p B ∧ B ≤ 1000000 ∧ Drawn H Q p (B + 1) fun d => 0 ≤ d ∧ d < n
theorem ok_l_draw (T : Tx K mg) : FnOk P w K mg base (L2.CX P w) 1 T.a_l_draw T.d_l_draw P_l_draw (sp_l_draw T) := by
  refine T.F_l_draw.okX sc_l_draw (fun vs H Q E h => ?_) (fun cdv A outer s H vs Q E hr h => ?_)
  · obtain ⟨p, n, B, rfl, _⟩ := h
    rfl
  · obtain ⟨p, n, B, rfl, h0, h1, hp, hB, k⟩ := h
    have hu := hu_of hr
    obtain ⟨c, ns, st, rs, e1, e2, hl, hs0, hsB⟩ := hp.at_
    have npc : p ≠ c := ne_of e1 e2 (by intro z; cases z)
    refine ⟨_, (pss_cons (ps_if (pt_cmpR op_ge (pe_dget hu (pv 0) pe_str (fun _ _ => rfl)) (pv 1) (nomark _))
 (pss_cons (ps_set (i := 2) sc_l_draw.nd rfl (.inl rfl) (pe_op op_modN (pe_callTy call_int1 (by rfl) T.n_int (by decide +kernel) (pa_cons (pe_dget hu (pv 0) pe_str (fun _ _ => rfl)) pa_nil)) (pv 1)))
 (pss_cons (ps_dput hu (pv 0) pe_str (pe_op op_fdivN (pe_dget hu (pv 0) pe_str (fun _ _ => rfl)) (pv 1)) rfl)
 (pss_one (ps_ret (pv 2)))))
 pss_nil)
 (pss_cons (ps_set (i := 3) sc_l_draw.nd rfl (.inl rfl) (pe_dget hu (pv 0) pe_str (fun _ _ => rfl)))
 (pss_cons (ps_dput hu (pv 0) pe_str (pe_op op_add (pv 3) pe_int) rfl)
 (pss_cons (ps_set (i := 4) sc_l_draw.nd rfl (.inl rfl) (pe_op op_add (pe_op op_mul pe_int (pv 3)) pe_int))
 (pss_cons (ps_if (pt_cmpR (op_neD hr.units) (pe_dget hu (pv 0) pe_str (fun _ _ => rfl)) (pe_lst pa_nil) (nomark _))
 (pss_one (ps_set (i := 4) sc_l_draw.nd rfl (.inl rfl) (pe_ix ix_list (pe_dget hu (pv 0) pe_str (fun _ _ => rfl)) (pe_op op_modN (pe_callTy call_int1 (by rfl) T.n_int (by decide +kernel) (pa_cons (pv 3) pa_nil)) (pe_callB call_len_seq (by rfl) T.n_len (by decide +kernel) (pa_cons (pe_dget hu (pv 0) pe_str (fun _ _ => rfl)) pa_nil))) (fun _ _ => rfl))))
 pss_nil)
 (pss_cons (ps_if (PW.pt (pw_and (pt_cmpR op_lt (pv 3) (pe_callB call_len_seq (by rfl) T.n_len (by decide +kernel) (pa_cons (pe_dget hu (pv 0) pe_str (fun _ _ => rfl)) pa_nil)) (nomark _)) (pw_and1 (pt_cmpR op_ge (pv 4) (pe_op op_pow pe_int pe_int) (nomark _)))))
 (pss_cons (ps_dput hu (pv 0) pe_str (pe_op op_fdivN (pe_op op_sub (pv 4) (pe_op op_pow pe_int pe_int)) (pv 1)) rfl)
 (pss_one (ps_ret (pe_op op_modN (pe_callTy call_int1 (by rfl) T.n_int (by decide +kernel) (pa_cons (pe_op op_sub (pv 4) (pe_op op_pow pe_int pe_int)) pa_nil)) (pv 1)))))
 pss_nil)
 (pss_cons (ps_set (i := 5) sc_l_draw.nd rfl (.inl rfl) (pe_op op_add (pe_op op_mul (pe_op op_modN (pe_callTy call_int1 (by rfl) T.n_int (by decide +kernel) (pa_cons (pv 4) pa_nil)) pe_int) pe_int) (pe_op op_mul (pe_op op_mul pe_int (pv 3)) (pv 3))))
 (pss_cons (ps_set (i := 6) sc_l_draw.nd rfl (.inl rfl) (pe_op op_modN (pe_callTy call_int1 (by rfl) T.n_int (by decide +kernel) (pa_cons (pe_op op_add (pe_op op_add (pv 5) (pe_op op_mul pe_int (pv 3))) pe_int) pa_nil)) pe_int))
 (pss_cons (ps_set (i := 6) sc_l_draw.nd rfl (.inl rfl) (pe_op op_modN (pe_callTy call_int1 (by rfl) T.n_int (by decide +kernel) (pa_cons (pe_op op_mul (pv 6) (pe_op op_add (pv 6) pe_int)) pa_nil)) pe_int))
 (pss_one (ps_ret (pe_op op_modN (pe_callTy call_int1 (by rfl) T.n_int (by decide +kernel) (pa_cons (pe_op op_fdivN (pe_op op_modN (pe_callTy call_int1 (by rfl) T.n_int (by decide +kernel) (pa_cons (pe_op op_add (pe_op op_mul (pv 6) (pv 6)) (pe_op op_mul pe_int (pv 6))) pa_nil)) pe_int) pe_int) pa_nil)) (pv 1))))))))))))), ?_⟩
    have dn : CDivN rs n := ⟨by omega, by omega⟩
    refine ⟨_, rfl, p, _, rfl, dg_r e1, _, rfl, _, _, rfl, rfl, _, rfl, ?_⟩
    refine ite2 (fun _ => ?_) (fun _ => ?_)
    · refine ⟨_, rfl, p, _, rfl, dg_r e1, .inl ⟨_, rfl, _, rfl, _, _, rfl, rfl, (by omega), ?_⟩⟩
      refine ⟨_, rfl, p, _, rfl, dg_r e1, _, rfl, _, _, rfl, rfl, dn, _, rfl, p, _, rfl, dp_r e1, ?_⟩
      refine ⟨_, rfl, k _ _ (fmod_in h0) (But.upd (But.refl H) e1) ⟨c, ns, st, _, upd_same, by rw [upd_ne npc.symm]; exact e2, hl, hs0, by omega⟩⟩
    · refine ⟨_, rfl, p, _, rfl, dg_s e1, ?_⟩
      refine ⟨_, rfl, _, _, rfl, rfl, _, rfl, p, _, rfl, dp_s e1, ?_⟩
      refine ⟨_, rfl, _, _, rfl, rfl, .inl ⟨by decide, by decide⟩, _, _, rfl, rfl, ?_⟩
      have hp1 : upd H p (.dK (penD c (st + 1) rs)) p = some (.dK (penD c (st + 1) rs)) := upd_same
      have hc1 : upd H p (.dK (penD c (st + 1) rs)) c = some (.lst (ns.map V.int)) := by rw [upd_ne npc.symm]; exact e2
      have b1 : But p H (upd H p (.dK (penD c (st + 1) rs))) := But.upd (But.refl H) e1
      generalize upd H p (.dK (penD c (st + 1) rs)) = H1 at hp1 hc1 b1 ⊢
      refine ⟨_, rfl, p, _, rfl, dg_c hp1, (by show 0 ≤ sizeLine; decide), fun e0 ne0 => ?_⟩
      have se0 : Same H1 (upd H1 e0 (.lst [])) := Same.laid ne0
      have hp2 := se0 _ _ hp1
      have hc2 := se0 _ _ hc1
      have b2 : But p H (upd H1 e0 (.lst [])) := b1.new ne0
      have he2 : upd H1 e0 (.lst []) e0 = some (.lst []) := upd_same
      generalize upd H1 e0 (.lst []) = H2 at hp2 hc2 b2 he2 ⊢
      refine ⟨.list (ns.map PyData.int), .list [], .lst (SqL.of hc2) (dp_ints ns), .lst (SqL.of he2) .nil, sh_ints ns, rfl, _, rfl, ?_⟩
      have dz : ∀ z : Int, CDivN z n := fun z => ⟨by omega, by omega⟩
      have n0 : n ≠ 0 := by omega
      have cp : CPow 10 18 := ⟨by decide, by decide, by decide⟩
      have nzA : (2147482811 : Int) ≠ 0 := by decide
      have nzB : (2147482873 : Int) ≠ 0 := by decide
      have nzC : (2147482951 : Int) ≠ 0 := by decide
      have nzD : (2147483033 : Int) ≠ 0 := by decide
      have bB : ∀ x : Int, -(2 ^ 64) < x.fmod 2147482873 ∧ x.fmod 2147482873 < 2 ^ 64 := fun x => by have := fmod_in (a := x) (b := 2147482873) (by decide); omega
      have bC : ∀ x : Int, -(2 ^ 64) < x.fmod 2147482951 ∧ x.fmod 2147482951 < 2 ^ 64 := fun x => by have := fmod_in (a := x) (b := 2147482951) (by decide); omega
      have kk : ∀ (z : Int) H', But p H H' → Pen H' p (B + 1) → Q (.int (z.fmod n)) H' := fun z H' b q => k _ H' (fmod_in h0) b q
      have P2 : ∀ H', (∃ r, H' p = some (.dK (penD c (st + 1) r))) → H' c = some (.lst (ns.map V.int)) → Pen H' p (B + 1) := fun H' ⟨r, e⟩ e' => ⟨c, ns, st + 1, r, e, e', hl, by omega, by omega⟩
      refine ite2 (fun hne => ?_) (fun _ => ?_)
      focus
        have hpos : 0 < ns.length := by
          cases ns with
          | nil => exact absurd hne (by decide)
          | cons a r => exact Nat.succ_pos _
        have hm := fmod_in (a := st) (b := (ns.length : Int)) (by omega)
        have hi : ∃ z, atI (ns.map V.int) (st.fmod ((ns.map V.int).length : Int)) = some (.int z) := by
          rw [List.length_map]
          obtain ⟨j, hj⟩ := Int.eq_ofNat_of_zero_le hm.1
          have hj2 : j < ns.length := by omega
          refine ⟨ns[j], ?_⟩
          rw [hj, atI_nat (by rw [List.getElem?_map, List.getElem?_eq_getElem hj2]; rfl)]
        obtain ⟨z, hz⟩ := hi
        refine ⟨_, rfl, p, _, rfl, dg_c hp2, _, rfl, .inl ⟨_, rfl, _, rfl, p, _, rfl, dg_c hp2, c, _, rfl, .inl (SqL.of hc2), _, _, rfl, rfl, (by rw [List.length_map]; omega), c, _, _, _, rfl, rfl, SqL.of hc2, hz, ?_⟩⟩
        clear hz hm hne hpos
      all_goals
        refine ⟨_, rfl, _, rfl, p, _, rfl, dg_c hp2, c, _, rfl, .inl (SqL.of hc2), _, _, rfl, rfl, _, rfl, ?_⟩
        refine ite2 (fun _ => ?_) (fun _ => ?_)
        focus
          refine ⟨_, rfl, _, _, rfl, rfl, cp, _, _, rfl, rfl, _, rfl, ?_⟩
          refine ite2 (fun _ => ?_) (fun _ => ?_)
          focus
            refine ⟨_, rfl, _, _, rfl, rfl, cp, _, _, rfl, rfl, _, rfl, _, _, rfl, rfl, dz _, _, rfl, p, _, rfl, dp_r hp2, ?_⟩
            refine ⟨_, rfl, _, _, rfl, rfl, cp, _, _, rfl, rfl, .inl ⟨_, rfl, _, rfl, _, _, rfl, rfl, n0, ?_⟩⟩
            exact kk _ _ (b2.upd hp2) (P2 _ ⟨_, upd_same⟩ (by rw [upd_ne npc.symm]; exact hc2))
        rotate_left
        focus
          refine iteF ?_
        all_goals
          refine ⟨_, rfl, .inl ⟨_, rfl, _, _, rfl, rfl, nzA, _, _, rfl, rfl, .inr ⟨by decide, by decide⟩, _, rfl, _, _, rfl, rfl, .inl ⟨by decide, by decide⟩, _, rfl, _, _, rfl, rfl, .inr ⟨by omega, by omega⟩, _, _, rfl, rfl, ?_⟩⟩
          refine ⟨_, rfl, _, rfl, _, _, rfl, rfl, .inl ⟨by decide, by decide⟩, _, _, rfl, rfl, _, _, rfl, rfl, .inl ⟨_, rfl, _, _, rfl, rfl, nzB, ?_⟩⟩
          refine ⟨_, rfl, _, rfl, _, _, rfl, rfl, _, _, rfl, rfl, .inl (bB _), .inl ⟨_, rfl, _, _, rfl, rfl, nzC, ?_⟩⟩
          refine ⟨_, rfl, _, rfl, _, _, rfl, rfl, .inl (bC _), _, rfl, _, _, rfl, rfl, .inl ⟨by decide, by decide⟩, _, _, rfl, rfl, .inl ⟨_, rfl, _, _, rfl, rfl, nzD, ?_⟩⟩
          refine ⟨_, _, rfl, rfl, ⟨by decide, by decide⟩, .inl ⟨_, rfl, _, rfl, _, _, rfl, rfl, n0, ?_⟩⟩
          exact kk _ _ b2 (P2 _ ⟨_, hp2⟩ hc2)
end
end AW

set_option linter.all false
set_option maxRecDepth 100000
set_option maxHeartbeats 8000000
namespace AW
open PySem PySem.Spec PyProof.Rows L2
variable [Tbs]
section
variable {P : Program} {w : World} {K : PySem.W.Frag} {mg : Str → Option Value} {base : Heap}
def pr_Place_mul (T : Tx K mg) : Pr := fun ds B k e => ∃ x y a x' y' a', ds = [pl T x y a, pl T x' y' a'] ∧ CMulW x y' ∧ k (pl T (x + x') (y + y') (a + a' + x * y')) B
theorem okD_Place_mul (T : Tx K mg) : FnOk P w K mg base (L2.CX P w) 6 T.a_Place_mul T.d_Place_mul P_Place_mul (spD K (pr_Place_mul T)) := by
  refine T.F_Place_mul.okX sc_Place_mul (spD_len fun ds B k e h => by obtain ⟨x, y, a, x', y', a', rfl, c, hk⟩ := h; rfl) (fun cdv A outer s H vs Q E hr h => ?_)
  have G_Place_init : FnOk P w K mg base (L2.CX P w) _ _ _ _ _ := okD_Place_init T
  have G_check_place : FnOk P w K mg base (L2.CX P w) _ _ _ _ _ := okD_check_place T
  obtain ⟨G, ds, B, k, e, hs, hR, ⟨x, y, a, x', y', a', rfl, c, hk⟩, hK, hX⟩ := h
  refine ⟨_, (pss_cons (ps_expr (pe_call G_check_place (hr.mono (by decide)) (by rfl) T.g_check_place T.F_check_place.kp T.b_check_place .nil passL (pa_cons (pv 1) pa_nil)))
 (pss_one (ps_ret (pe_make T.M_Place G_Place_init (hr.mono (by decide)) (by rfl) T.g_C_Place T.b_Place_init .nil passL (pa_cons (pe_op op_add (pe_fld (pv 0) rfl) (pe_fld (pv 1) rfl)) (pa_cons (pe_op op_add (pe_fld (pv 0) rfl) (pe_fld (pv 1) rfl)) (pa_cons (pe_op op_add (pe_op op_add (pe_fld (pv 0) rfl) (pe_fld (pv 1) rfl)) (pe_op op_mulW (pe_fld (pv 0) rfl) (pe_fld (pv 1) rfl))) pa_nil))))))), run_body (ρ := [some (pl T x y a), some (pl T x' y' a')]) hs hR hK hX rfl ?_⟩
  refine ws_seq (ws_drop (we_call (wa_cons (we_var rfl (wa_nil ⟨_, rfl, .inl ⟨_, _, _, rfl, ?_⟩⟩)))))
  refine (ws_ret (we_place T (wa_cons (we_op (we_fx T (we_var rfl ⟨_, _, _, rfl, (we_fx T (we_var rfl ⟨_, _, _, rfl, (ro_i0 (wa_cons (we_op (we_fy T (we_var rfl ⟨_, _, _, rfl, (we_fy T (we_var rfl ⟨_, _, _, rfl, (ro_i0 (wa_cons (we_op (we_op (we_fa T (we_var rfl ⟨_, _, _, rfl, (we_fa T (we_var rfl ⟨_, _, _, rfl, (ro_i0 (we_op (we_fx T (we_var rfl ⟨_, _, _, rfl, (we_fy T (we_var rfl ⟨_, _, _, rfl, (ro_i c (ro_i0 (wa_nil ⟨_, _, _, rfl, ?_⟩)))⟩))⟩))))⟩))⟩))))))⟩))⟩)))))⟩))⟩))))))
  exact hk
def pr_Place_power (T : Tx K mg) : Pr := fun ds B k e => ∃ x y a n, ds = [pl T x y a, .int n] ∧ Bd 60000 x ∧ Bd 60000 y ∧ Bd 200000 a ∧ Bd 60000 n ∧ k (pl T (n * x) (n * y) (n * a + x * y * (n * (n - 1)).fdiv 2)) B
theorem okD_Place_power (T : Tx K mg) : FnOk P w K mg base (L2.CX P w) 6 T.a_Place_power T.d_Place_power P_Place_power (spD K (pr_Place_power T)) := by
  refine T.F_Place_power.okX sc_Place_power (spD_len fun ds B k e h => by obtain ⟨x, y, a, n, rfl, hx, hy, ha, hn, hk⟩ := h; rfl) (fun cdv A outer s H vs Q E hr h => ?_)
  have G_Place_init : FnOk P w K mg base (L2.CX P w) _ _ _ _ _ := okD_Place_init T
  have G_check_integer : FnOk P w K mg base (L2.CX P w) _ _ _ _ _ := okD_check_integer T
  obtain ⟨G, ds, B, k, e, hs, hR, ⟨x, y, a, n, rfl, hx, hy, ha, hn, hk⟩, hK, hX⟩ := h
  refine ⟨_, (pss_cons (ps_expr (pe_call G_check_integer (hr.mono (by decide)) (by rfl) T.g_check_integer T.F_check_integer.kp T.b_check_integer .nil passL (pa_cons (pv 1) pa_nil)))
 (pss_cons (ps_set (i := 2) sc_Place_power.nd rfl (.inl rfl) (pe_op op_add (pe_op op_mulW (pv 1) (pe_fld (pv 0) rfl)) (pe_op op_mulW (pe_op op_mulW (pe_fld (pv 0) rfl) (pe_fld (pv 0) rfl)) (pe_op op_fdivG (pe_op op_mulW (pv 1) (pe_op op_sub (pv 1) pe_int)) pe_int))))
 (pss_one (ps_ret (pe_make T.M_Place G_Place_init (hr.mono (by decide)) (by rfl) T.g_C_Place T.b_Place_init .nil passL (pa_cons (pe_op op_mulW (pv 1) (pe_fld (pv 0) rfl)) (pa_cons (pe_op op_mulW (pv 1) (pe_fld (pv 0) rfl)) (pa_cons (pv 2) pa_nil)))))))), run_body (ρ := [some (pl T x y a), some (.int n), none]) hs hR hK hX rfl ?_⟩
  refine ws_seq (ws_drop (we_call (wa_cons (we_var rfl (wa_nil ⟨_, rfl, .inl rfl, fun _ => ?_, fun h => nomatch h⟩)))))
  refine ws_seq (ws_set (we_op (we_op (we_var rfl (we_fa T (we_var rfl ⟨_, _, _, rfl, (ro_i (cmc (by apply Bd.mono; (repeat (first | assumption | exact Bd.lit 64 (by decide +kernel) | exact Bd.lit 2000 (by decide +kernel) | apply Bd.neg | apply Bd.fdiv | apply Bd.mul | apply Bd.add2 | apply Bd.sub2)); decide) (by apply Bd.mono; (repeat (first | assumption | exact Bd.lit 64 (by decide +kernel) | exact Bd.lit 2000 (by decide +kernel) | apply Bd.neg | apply Bd.fdiv | apply Bd.mul | apply Bd.add2 | apply Bd.sub2)); decide)) (we_op (we_op (we_fx T (we_var rfl ⟨_, _, _, rfl, (we_fy T (we_var rfl ⟨_, _, _, rfl, (ro_i (cmc (by apply Bd.mono; (repeat (first | assumption | exact Bd.lit 64 (by decide +kernel) | exact Bd.lit 2000 (by decide +kernel) | apply Bd.neg | apply Bd.fdiv | apply Bd.mul | apply Bd.add2 | apply Bd.sub2)); decide) (by apply Bd.mono; (repeat (first | assumption | exact Bd.lit 64 (by decide +kernel) | exact Bd.lit 2000 (by decide +kernel) | apply Bd.neg | apply Bd.fdiv | apply Bd.mul | apply Bd.add2 | apply Bd.sub2)); decide)) (we_op (we_op (we_var rfl (we_op (we_var rfl (we_int (ro_i0 (ro_i (cmc (by apply Bd.mono; (repeat (first | assumption | exact Bd.lit 64 (by decide +kernel) | exact Bd.lit 2000 (by decide +kernel) | apply Bd.neg | apply Bd.fdiv | apply Bd.mul | apply Bd.add2 | apply Bd.sub2)); decide) (by apply Bd.mono; (repeat (first | assumption | exact Bd.lit 64 (by decide +kernel) | exact Bd.lit 2000 (by decide +kernel) | apply Bd.neg | apply Bd.fdiv | apply Bd.mul | apply Bd.add2 | apply Bd.sub2)); decide)) (we_int (ro_i ⟨by decide +kernel, by decide +kernel⟩ (ro_i (cmc (by apply Bd.mono; (repeat (first | assumption | exact Bd.lit 64 (by decide +kernel) | exact Bd.lit 2000 (by decide +kernel) | apply Bd.neg | apply Bd.fdiv | apply Bd.mul | apply Bd.add2 | apply Bd.sub2)); decide) (by apply Bd.mono; (repeat (first | assumption | exact Bd.lit 64 (by decide +kernel) | exact Bd.lit 2000 (by decide +kernel) | apply Bd.neg | apply Bd.fdiv | apply Bd.mul | apply Bd.add2 | apply Bd.sub2)); decide)) (ro_i0 ?_)))))))))))))⟩))⟩)))))⟩))))))
  refine (ws_ret (we_place T (wa_cons (we_op (we_var rfl (we_fx T (we_var rfl ⟨_, _, _, rfl, (ro_i (cmc (by apply Bd.mono; (repeat (first | assumption | exact Bd.lit 64 (by decide +kernel) | exact Bd.lit 2000 (by decide +kernel) | apply Bd.neg | apply Bd.fdiv | apply Bd.mul | apply Bd.add2 | apply Bd.sub2)); decide) (by apply Bd.mono; (repeat (first | assumption | exact Bd.lit 64 (by decide +kernel) | exact Bd.lit 2000 (by decide +kernel) | apply Bd.neg | apply Bd.fdiv | apply Bd.mul | apply Bd.add2 | apply Bd.sub2)); decide)) (wa_cons (we_op (we_var rfl (we_fy T (we_var rfl ⟨_, _, _, rfl, (ro_i (cmc (by apply Bd.mono; (repeat (first | assumption | exact Bd.lit 64 (by decide +kernel) | exact Bd.lit 2000 (by decide +kernel) | apply Bd.neg | apply Bd.fdiv | apply Bd.mul | apply Bd.add2 | apply Bd.sub2)); decide) (by apply Bd.mono; (repeat (first | assumption | exact Bd.lit 64 (by decide +kernel) | exact Bd.lit 2000 (by decide +kernel) | apply Bd.neg | apply Bd.fdiv | apply Bd.mul | apply Bd.add2 | apply Bd.sub2)); decide)) (wa_cons (we_var rfl (wa_nil ⟨_, _, _, rfl, ?_⟩))))⟩))))))⟩)))))))
  exact hk
def pr_Place_twist (T : Tx K mg) : Pr := fun ds B k e => ∃ x y a x' y' a', ds = [pl T x y a, pl T x' y' a'] ∧ Bd 300000 x ∧ Bd 300000 y ∧ Bd 300000 x' ∧ Bd 300000 y' ∧ k (.int (x * y' - x' * y)) B
theorem okD_Place_twist (T : Tx K mg) : FnOk P w K mg base (L2.CX P w) 6 T.a_Place_twist T.d_Place_twist P_Place_twist (spD K (pr_Place_twist T)) := by
  refine T.F_Place_twist.okX sc_Place_twist (spD_len fun ds B k e h => by obtain ⟨x, y, a, x', y', a', rfl, hx, hy, hx', hy', hk⟩ := h; rfl) (fun cdv A outer s H vs Q E hr h => ?_)
  have G_check_place : FnOk P w K mg base (L2.CX P w) _ _ _ _ _ := okD_check_place T
  obtain ⟨G, ds, B, k, e, hs, hR, ⟨x, y, a, x', y', a', rfl, hx, hy, hx', hy', hk⟩, hK, hX⟩ := h
  refine ⟨_, (pss_cons (ps_expr (pe_call G_check_place (hr.mono (by decide)) (by rfl) T.g_check_place T.F_check_place.kp T.b_check_place .nil passL (pa_cons (pv 1) pa_nil)))
 (pss_one (ps_ret (pe_op op_sub (pe_op op_mulW (pe_fld (pv 0) rfl) (pe_fld (pv 1) rfl)) (pe_op op_mulW (pe_fld (pv 1) rfl) (pe_fld (pv 0) rfl)))))), run_body (ρ := [some (pl T x y a), some (pl T x' y' a')]) hs hR hK hX rfl ?_⟩
  refine ws_seq (ws_drop (we_call (wa_cons (we_var rfl (wa_nil ⟨_, rfl, .inl ⟨_, _, _, rfl, ?_⟩⟩)))))
  refine (ws_ret (we_op (we_op (we_fx T (we_var rfl ⟨_, _, _, rfl, (we_fy T (we_var rfl ⟨_, _, _, rfl, (ro_i (cmc (by apply Bd.mono; (repeat (first | assumption | exact Bd.lit 64 (by decide +kernel) | exact Bd.lit 2000 (by decide +kernel) | apply Bd.neg | apply Bd.fdiv | apply Bd.mul | apply Bd.add2 | apply Bd.sub2)); decide) (by apply Bd.mono; (repeat (first | assumption | exact Bd.lit 64 (by decide +kernel) | exact Bd.lit 2000 (by decide +kernel) | apply Bd.neg | apply Bd.fdiv | apply Bd.mul | apply Bd.add2 | apply Bd.sub2)); decide)) (we_op (we_fx T (we_var rfl ⟨_, _, _, rfl, (we_fy T (we_var rfl ⟨_, _, _, rfl, (ro_i (cmc (by apply Bd.mono; (repeat (first | assumption | exact Bd.lit 64 (by decide +kernel) | exact Bd.lit 2000 (by decide +kernel) | apply Bd.neg | apply Bd.fdiv | apply Bd.mul | apply Bd.add2 | apply Bd.sub2)); decide) (by apply Bd.mono; (repeat (first | assumption | exact Bd.lit 64 (by decide +kernel) | exact Bd.lit 2000 (by decide +kernel) | apply Bd.neg | apply Bd.fdiv | apply Bd.mul | apply Bd.add2 | apply Bd.sub2)); decide)) (ro_i0 ?_))⟩))⟩))))⟩))⟩)))))
  exact hk
def pr_Place_lifted (T : Tx K mg) : Pr := fun ds B k e => ∃ x y a s : Int, ds = [pl T x y a, .int s] ∧ k (pl T x y (a + s)) B
theorem okD_Place_lifted (T : Tx K mg) : FnOk P w K mg base (L2.CX P w) 6 T.a_Place_lifted T.d_Place_lifted P_Place_lifted (spD K (pr_Place_lifted T)) := by
  refine T.F_Place_lifted.okX sc_Place_lifted (spD_len fun ds B k e h => by obtain ⟨x, y, a, s1, rfl, hk⟩ := h; rfl) (fun cdv A outer s H vs Q E hr h => ?_)
  have G_Place_init : FnOk P w K mg base (L2.CX P w) _ _ _ _ _ := okD_Place_init T
  have G_check_integer : FnOk P w K mg base (L2.CX P w) _ _ _ _ _ := okD_check_integer T
  obtain ⟨G, ds, B, k, e, hs, hR, ⟨x, y, a, s1, rfl, hk⟩, hK, hX⟩ := h
  refine ⟨_, (pss_cons (ps_expr (pe_call G_check_integer (hr.mono (by decide)) (by rfl) T.g_check_integer T.F_check_integer.kp T.b_check_integer .nil passL (pa_cons (pv 1) pa_nil)))
 (pss_one (ps_ret (pe_make T.M_Place G_Place_init (hr.mono (by decide)) (by rfl) T.g_C_Place T.b_Place_init .nil passL (pa_cons (pe_fld (pv 0) rfl) (pa_cons (pe_fld (pv 0) rfl) (pa_cons (pe_op op_add (pe_fld (pv 0) rfl) (pv 1)) pa_nil))))))), run_body (ρ := [some (pl T x y a), some (.int s1)]) hs hR hK hX rfl ?_⟩
  refine ws_seq (ws_drop (we_call (wa_cons (we_var rfl (wa_nil ⟨_, rfl, .inl rfl, fun _ => ?_, fun h => nomatch h⟩)))))
  refine (ws_ret (we_place T (wa_cons (we_fx T (we_var rfl ⟨_, _, _, rfl, (wa_cons (we_fy T (we_var rfl ⟨_, _, _, rfl, (wa_cons (we_op (we_fa T (we_var rfl ⟨_, _, _, rfl, (we_var rfl (ro_i0 (wa_nil ⟨_, _, _, rfl, ?_⟩)))⟩))))⟩)))⟩)))))
  exact hk
end
end AW

set_option linter.all false
set_option maxRecDepth 100000
set_option maxHeartbeats 8000000
namespace AW
open PySem PySem.Spec PyProof.Rows L2
variable [Tbs]
theorem dvg {i j : Int} (h : j ≠ 0) (b : Bd 9000 j) : CDivG i j := by
  refine ⟨h, ?_⟩
  unfold Bd at b
  exact PySem.Flt.log2_lt_of (by decide) b
section
variable {P : Program} {w : World} {K : PySem.W.Frag} {mg : Str → Option Value} {base : Heap}
abbrev penF : D := .pen "count" "left"
def pr_l_begin (T : Tx K mg) : Pr := fun ds B k e => ∃ ns : List Int, ds = [.scr ns] ∧ ns.length ≤ 63 ∧ 0 ≤ B ∧ k penF B
theorem penD_E (c : Addr) (s r : Int) : penD c s r = penE "count" "left" c s r := rfl
theorem okD_l_begin (T : Tx K mg) : FnOk P w K mg base (L2.CX P w) 1 T.a_l_begin T.d_l_begin P_l_begin (spD K (pr_l_begin T)) :=
  (ok_l_begin T).imp fun vs H Q E ⟨G, ds, B, k, e, hs, hr, ⟨ns, ed, hl, hB, h⟩, hk, hx⟩ => by
    subst ed
    obtain ⟨v, _, rfl, ⟨hT, a, rfl, hS⟩, rfl⟩ := hr
    refine ⟨a, ns, rfl, (Le.of_sub (B := B) (B' := B) hs (Int.le_refl _)).seqL hS, hl, fun p c H' ss np nc ne hp hc => ?_⟩
    have none_of : ∀ q, H q = none → G q = none := fun q z => by
      cases w : G q with
      | none => rfl
      | some u => rw [hs _ _ w] at z; cases z
    have le : Le G B (upd (upd G p (.dK (penE "count" "left" c 0 0))) c (.lst (ns.map V.int))) B := Le.of_sub (fun b o z => by rw [upd_ne (ne_of_none z (none_of c nc)), upd_ne (ne_of_none z (none_of p np))]; exact z) (Int.le_refl _)
    refine hk penF _ B (upd (upd G p (.dK (penE "count" "left" c 0 0))) c (.lst (ns.map V.int))) H' h ⟨le, fun b o z => ?_, fun b o z n _ => ?_⟩ ⟨le.tb hT, p, c, ns, 0, 0, rfl, by rw [upd_ne ne.symm, upd_same], upd_same, hl, Int.le_refl _, hB⟩
    · by_cases h1 : b = c
      · subst h1; rw [upd_same] at z; cases z; exact hc
      · rw [upd_ne h1] at z
        by_cases h2 : b = p
        · subst h2; rw [upd_same] at z; cases z; exact hp
        · rw [upd_ne h2] at z; exact ss _ _ (hs _ _ z)
    · exact ⟨ss _ _ z, by rw [upd_ne (ne_of_none z nc), upd_ne (ne_of_none z np)]; exact n⟩
def pr_l_draw (T : Tx K mg) : Pr := fun ds B k e => ∃ n : Int, ds = [penF, .int n] ∧ 0 < n ∧ n < 1073741824 ∧ B ≤ 1000000 ∧ ∀ d, 0 ≤ d → d < n → k (.int d) (B + 1)
theorem okD_l_draw (T : Tx K mg) : FnOk P w K mg base (L2.CX P w) 1 T.a_l_draw T.d_l_draw P_l_draw (spD K (pr_l_draw T)) :=
  (ok_l_draw T).imp fun vs H Q E ⟨G, ds, B, k, e, hs, hr, ⟨n, ed, n0, n1, hB, h⟩, hk, hx⟩ => by
    subst ed
    obtain ⟨v, _, rfl, ⟨_, p, c, ns, s, r, rfl, gp, gc, hl, s0, s1⟩, u, _, rfl, ru, rfl⟩ := hr
    rw [show u = _ from ru]
    refine ⟨p, n, B, rfl, n0, n1, ⟨c, ns, s, r, hs _ _ gp, hs _ _ gc, hl, s0, s1⟩, hB, fun d H' hd bt hp => ?_⟩
    obtain ⟨c1, ns1, s', r', e1, e2, l1, b0, b1⟩ := hp.at_
    obtain ⟨s2, r2, e3⟩ := bt.cl c s r (hs _ _ gp)
    rw [e1] at e3
    have ec : c1 = c := by
      injection e3 with e3
      injection e3 with e3
      exact penD_inj e3
    subst ec
    have npc : c1 ≠ p := ne_of gc gp (by intro z; cases z)
    have nop : ∀ b o, G b = some o → ¬ IsPen o → b ≠ p := fun b o z n q => by
      subst q
      rw [gp] at z
      cases z
      exact n (.inl ⟨_, _, _, _, _, rfl⟩)
    refine hk (.int d) _ (B + 1) (upd G p (.dK (penD c1 s' r'))) H' (h d hd.1 hd.2) ⟨⟨by omega, fun b o z n => by rw [upd_ne (nop b o z n)]; exact z, fun b k l q x y z => ?_, fun hT z hz => ?_⟩, fun b o z => ?_, fun b o z n _ => ?_⟩ rfl
    · by_cases hb : b = p
      · subst hb
        rw [gp] at z
        injection z with z
        injection z with z
        unfold penE at z
        injection z with z1 z2
        injection z2 with z2 z3
        injection z3 with z3 z4
        injection z1 with _ z1
        injection z1 with z1
        injection z2 with z2 z5
        injection z2 with z2
        injection z3 with z3 z6
        injection z3 with z3
        subst z1 z2 z3
        exact ⟨s', r', upd_same, fun _ _ => ⟨b0, b1⟩⟩
      · exact ⟨x, y, by rw [upd_ne hb]; exact z, fun a b => ⟨a, by omega⟩⟩
    · obtain ⟨ps, h1, h2, h3⟩ := hT z hz
      refine ⟨ps, by rw [upd_ne (ne_of h1 gp (by intro z; cases z))]; exact h1, h2, fun pos cv hc => ?_⟩
      obtain ⟨c2, k1, k2⟩ := h3 pos cv hc
      exact ⟨c2, k1, by rw [upd_ne (ne_of k2 gp (by intro z; cases z))]; exact k2⟩
    · by_cases hb : b = p
      · subst hb; rw [upd_same] at z; cases z; exact e1
      · rw [upd_ne hb] at z; exact bt.st b o hb (hs _ _ z)
    · have hb : b ≠ p := fun q => by rw [q, gp] at n; cases n
      exact ⟨bt.st b o hb z, by rw [upd_ne hb]; exact n⟩
end
end AW

set_option linter.all false
set_option maxRecDepth 100000
set_option maxHeartbeats 8000000
namespace AW
open PySem PySem.Spec PyProof.Rows L2
variable [Tbs]
section
variable {P : Program} {w : World} {K : PySem.W.Frag} {mg : Str → Option Value} {base : Heap}
theorem bd0 {k : Nat} : Bd k 0 := Nat.pos_of_ne_zero (by have := Nat.one_le_two_pow (n := k); omega)
def pr_l_pick (T : Tx K mg) : Pr := fun ds B k e => ∃ xs : List D, ds = [penF, .lst xs] ∧ 0 < xs.length ∧ xs.length ≤ 1000 ∧ B ≤ 1000000 ∧ ∀ d, d ∈ xs → k d (B + 1)
theorem okD_l_pick (T : Tx K mg) : FnOk P w K mg base (L2.CX P w) 2 T.a_l_pick T.d_l_pick P_l_pick (spD K (pr_l_pick T)) := by
  refine T.F_l_pick.okX sc_l_pick (spD_len fun ds B k e h => by obtain ⟨xs, rfl, h0, h1, hB, hk⟩ := h; rfl) (fun cdv A outer s H vs Q E hr h => ?_)
  have G_l_draw : FnOk P w K mg base (L2.CX P w) 1 _ _ _ _ := okD_l_draw T
  obtain ⟨G, ds, B, k, e, hs, hR, ⟨xs, rfl, h0, h1, hB, hk⟩, hK, hX⟩ := h
  refine ⟨_, (pss_one (ps_ret (pe_ix ix_list (pv 1) (pe_call G_l_draw (hr.mono (by decide)) (by rfl) T.g_l_draw T.F_l_draw.kp T.b_l_draw .nil passL (pa_cons (pv 0) (pa_cons (pe_callB call_len_seq (by rfl) T.n_len (by decide +kernel) (pa_cons (pv 1) pa_nil)) pa_nil))) (fun _ _ => rfl)))), run_body (ρ := [some penF, some (.lst xs)]) hs hR hK hX rfl ?_⟩
  refine (ws_ret (we_op (we_var rfl (we_call (wa_cons (we_var rfl (wa_cons (we_lenL (wa_cons (we_var rfl (wa_nil ⟨_, rfl, (wa_nil ⟨_, rfl, by omega, by omega, hB, fun d d0 d1 => ?_⟩)⟩)))))))))))
  obtain ⟨j, rfl⟩ := Int.eq_ofNat_of_zero_le d0
  have hj : j < xs.length := by omega
  exact ro_ixL (atI_nat (List.getElem?_eq_getElem hj)) (hk _ (List.getElem_mem hj))
def pr_l_small (T : Tx K mg) : Pr := fun ds B k e => ds = [penF] ∧ B ≤ 1000000 ∧ ∀ i : Int, -4 ≤ i → i ≤ 4 → k (.int i) (B + 1)
theorem okD_l_small (T : Tx K mg) : FnOk P w K mg base (L2.CX P w) 2 T.a_l_small T.d_l_small P_l_small (spD K (pr_l_small T)) := by
  refine T.F_l_small.okX sc_l_small (spD_len fun ds B k e h => by obtain ⟨rfl, hB, hk⟩ := h; rfl) (fun cdv A outer s H vs Q E hr h => ?_)
  have G_l_draw : FnOk P w K mg base (L2.CX P w) 1 _ _ _ _ := okD_l_draw T
  obtain ⟨G, ds, B, k, e, hs, hR, ⟨rfl, hB, hk⟩, hK, hX⟩ := h
  refine ⟨_, (pss_one (ps_ret (pe_op op_sub (pe_call G_l_draw (hr.mono (by decide)) (by rfl) T.g_l_draw T.F_l_draw.kp T.b_l_draw .nil passL (pa_cons (pv 0) (pa_cons pe_int pa_nil))) pe_int))), run_body (ρ := [some penF]) hs hR hK hX rfl ?_⟩
  refine (ws_ret (we_op (we_call (wa_cons (we_var rfl (wa_cons (we_int (wa_nil ⟨_, rfl, by omega, by omega, hB, fun d d0 d1 => (we_int (ro_i0 ?_))⟩))))))))
  exact hk _ (by omega) (by omega)
def pr_l_join (T : Tx K mg) : Pr := fun ds B k e => ∃ x y a s t m : Int, ds = [t3 x y a, t3 s t m] ∧ Bd 100000 x ∧ Bd 100000 t ∧ k (t3 (x + s) (y + t) (a + m + x * t)) B
theorem okD_l_join (T : Tx K mg) : FnOk P w K mg base (L2.CX P w) 1 T.a_l_join T.d_l_join P_l_join (spD K (pr_l_join T)) := by
  refine T.F_l_join.okX sc_l_join (spD_len fun ds B k e h => by obtain ⟨x, y, a, s1, t, m, rfl, hx, ht, hk⟩ := h; rfl) (fun cdv A outer s H vs Q E hr h => ?_)
  obtain ⟨G, ds, B, k, e, hs, hR, ⟨x, y, a, s1, t, m, rfl, hx, ht, hk⟩, hK, hX⟩ := h
  refine ⟨_, (pss_cons (ps_asg (pv 0) (pg_tup rfl (pgs_cons (pg_name (i := 2) sc_l_join.nd rfl (.inl rfl)) (pgs_cons (pg_name (i := 3) sc_l_join.nd rfl (.inl rfl)) (pgs_cons (pg_name (i := 4) sc_l_join.nd rfl (.inl rfl)) pgs_nil)))))
 (pss_cons (ps_asg (pv 1) (pg_tup rfl (pgs_cons (pg_name (i := 5) sc_l_join.nd rfl (.inl rfl)) (pgs_cons (pg_name (i := 6) sc_l_join.nd rfl (.inl rfl)) (pgs_cons (pg_name (i := 7) sc_l_join.nd rfl (.inl rfl)) pgs_nil)))))
 (pss_one (ps_ret (pe_tup (pa_cons (pe_op op_add (pv 2) (pv 5)) (pa_cons (pe_op op_add (pv 3) (pv 6)) (pa_cons (pe_op op_add (pe_op op_add (pv 4) (pv 7)) (pe_op op_mulW (pv 2) (pv 6))) pa_nil)))))))), run_body (ρ := [some (t3 x y a), some (t3 s1 t m), none, none, none, none, none, none]) hs hR hK hX rfl ?_⟩
  refine ws_seq (ws_asg (we_var rfl (wg_tup rfl (wgs_cons (wg_name (wgs_cons (wg_name (wgs_cons (wg_name (wgs_nil ?_))))))))))
  refine ws_seq (ws_asg (we_var rfl (wg_tup rfl (wgs_cons (wg_name (wgs_cons (wg_name (wgs_cons (wg_name (wgs_nil ?_))))))))))
  refine (ws_ret (we_tup (wa_cons (we_op (we_var rfl (we_var rfl (ro_i0 (wa_cons (we_op (we_var rfl (we_var rfl (ro_i0 (wa_cons (we_op (we_op (we_var rfl (we_var rfl (ro_i0 (we_op (we_var rfl (we_var rfl (ro_i (cmc (by apply Bd.mono; (repeat (first | assumption | exact Bd.lit 64 (by decide +kernel) | exact Bd.lit 2000 (by decide +kernel) | apply Bd.neg | apply Bd.fdiv | apply Bd.mul | apply Bd.add2 | apply Bd.sub2)); decide) (by apply Bd.mono; (repeat (first | assumption | exact Bd.lit 64 (by decide +kernel) | exact Bd.lit 2000 (by decide +kernel) | apply Bd.neg | apply Bd.fdiv | apply Bd.mul | apply Bd.add2 | apply Bd.sub2)); decide)) (ro_i0 (wa_nil ⟨Nat.le_of_ble_eq_true rfl, ?_⟩))))))))))))))))))))))))
  exact hk
def pr_l_times (T : Tx K mg) : Pr := fun ds B k e => ∃ x y a n : Int, ds = [t3 x y a, .int n] ∧ Bd 60000 x ∧ Bd 60000 y ∧ Bd 60000 a ∧ Bd 60000 n ∧ k (t3 (n * x) (n * y) (n * a + (n * (n - 1)).fdiv 2 * x * y)) B
theorem okD_l_times (T : Tx K mg) : FnOk P w K mg base (L2.CX P w) 1 T.a_l_times T.d_l_times P_l_times (spD K (pr_l_times T)) := by
  refine T.F_l_times.okX sc_l_times (spD_len fun ds B k e h => by obtain ⟨x, y, a, n, rfl, hx, hy, ha, hn, hk⟩ := h; rfl) (fun cdv A outer s H vs Q E hr h => ?_)
  obtain ⟨G, ds, B, k, e, hs, hR, ⟨x, y, a, n, rfl, hx, hy, ha, hn, hk⟩, hK, hX⟩ := h
  refine ⟨_, (pss_cons (ps_asg (pv 0) (pg_tup rfl (pgs_cons (pg_name (i := 2) sc_l_times.nd rfl (.inl rfl)) (pgs_cons (pg_name (i := 3) sc_l_times.nd rfl (.inl rfl)) (pgs_cons (pg_name (i := 4) sc_l_times.nd rfl (.inl rfl)) pgs_nil)))))
 (pss_cons (ps_set (i := 5) sc_l_times.nd rfl (.inl rfl) (pe_op op_fdivG (pe_op op_mulW (pv 1) (pe_op op_sub (pv 1) pe_int)) pe_int))
 (pss_one (ps_ret (pe_tup (pa_cons (pe_op op_mulW (pv 1) (pv 2)) (pa_cons (pe_op op_mulW (pv 1) (pv 3)) (pa_cons (pe_op op_add (pe_op op_mulW (pv 1) (pv 4)) (pe_op op_mulW (pe_op op_mulW (pv 5) (pv 2)) (pv 3))) pa_nil)))))))), run_body (ρ := [some (t3 x y a), some (.int n), none, none, none, none]) hs hR hK hX rfl ?_⟩
  refine ws_seq (ws_asg (we_var rfl (wg_tup rfl (wgs_cons (wg_name (wgs_cons (wg_name (wgs_cons (wg_name (wgs_nil ?_))))))))))
  refine ws_seq (ws_set (we_op (we_op (we_var rfl (we_op (we_var rfl (we_int (ro_i0 (ro_i (cmc (by apply Bd.mono; (repeat (first | assumption | exact Bd.lit 64 (by decide +kernel) | exact Bd.lit 2000 (by decide +kernel) | apply Bd.neg | apply Bd.fdiv | apply Bd.mul | apply Bd.add2 | apply Bd.sub2)); decide) (by apply Bd.mono; (repeat (first | assumption | exact Bd.lit 64 (by decide +kernel) | exact Bd.lit 2000 (by decide +kernel) | apply Bd.neg | apply Bd.fdiv | apply Bd.mul | apply Bd.add2 | apply Bd.sub2)); decide)) (we_int (ro_i ⟨by decide +kernel, by decide +kernel⟩ ?_)))))))))))
  refine (ws_ret (we_tup (wa_cons (we_op (we_var rfl (we_var rfl (ro_i (cmc (by apply Bd.mono; (repeat (first | assumption | exact Bd.lit 64 (by decide +kernel) | exact Bd.lit 2000 (by decide +kernel) | apply Bd.neg | apply Bd.fdiv | apply Bd.mul | apply Bd.add2 | apply Bd.sub2)); decide) (by apply Bd.mono; (repeat (first | assumption | exact Bd.lit 64 (by decide +kernel) | exact Bd.lit 2000 (by decide +kernel) | apply Bd.neg | apply Bd.fdiv | apply Bd.mul | apply Bd.add2 | apply Bd.sub2)); decide)) (wa_cons (we_op (we_var rfl (we_var rfl (ro_i (cmc (by apply Bd.mono; (repeat (first | assumption | exact Bd.lit 64 (by decide +kernel) | exact Bd.lit 2000 (by decide +kernel) | apply Bd.neg | apply Bd.fdiv | apply Bd.mul | apply Bd.add2 | apply Bd.sub2)); decide) (by apply Bd.mono; (repeat (first | assumption | exact Bd.lit 64 (by decide +kernel) | exact Bd.lit 2000 (by decide +kernel) | apply Bd.neg | apply Bd.fdiv | apply Bd.mul | apply Bd.add2 | apply Bd.sub2)); decide)) (wa_cons (we_op (we_op (we_var rfl (we_var rfl (ro_i (cmc (by apply Bd.mono; (repeat (first | assumption | exact Bd.lit 64 (by decide +kernel) | exact Bd.lit 2000 (by decide +kernel) | apply Bd.neg | apply Bd.fdiv | apply Bd.mul | apply Bd.add2 | apply Bd.sub2)); decide) (by apply Bd.mono; (repeat (first | assumption | exact Bd.lit 64 (by decide +kernel) | exact Bd.lit 2000 (by decide +kernel) | apply Bd.neg | apply Bd.fdiv | apply Bd.mul | apply Bd.add2 | apply Bd.sub2)); decide)) (we_op (we_op (we_var rfl (we_var rfl (ro_i (cmc (by apply Bd.mono; (repeat (first | assumption | exact Bd.lit 64 (by decide +kernel) | exact Bd.lit 2000 (by decide +kernel) | apply Bd.neg | apply Bd.fdiv | apply Bd.mul | apply Bd.add2 | apply Bd.sub2)); decide) (by apply Bd.mono; (repeat (first | assumption | exact Bd.lit 64 (by decide +kernel) | exact Bd.lit 2000 (by decide +kernel) | apply Bd.neg | apply Bd.fdiv | apply Bd.mul | apply Bd.add2 | apply Bd.sub2)); decide)) (we_var rfl (ro_i (cmc (by apply Bd.mono; (repeat (first | assumption | exact Bd.lit 64 (by decide +kernel) | exact Bd.lit 2000 (by decide +kernel) | apply Bd.neg | apply Bd.fdiv | apply Bd.mul | apply Bd.add2 | apply Bd.sub2)); decide) (by apply Bd.mono; (repeat (first | assumption | exact Bd.lit 64 (by decide +kernel) | exact Bd.lit 2000 (by decide +kernel) | apply Bd.neg | apply Bd.fdiv | apply Bd.mul | apply Bd.add2 | apply Bd.sub2)); decide)) (ro_i0 (wa_nil ⟨Nat.le_of_ble_eq_true rfl, ?_⟩)))))))))))))))))))))))))))
  exact hk
def pr_l_place (T : Tx K mg) : Pr := fun ds B k e => ∃ x y a : Int, ds = [t3 x y a] ∧ k (pl T x y a) B
theorem okD_l_place (T : Tx K mg) : FnOk P w K mg base (L2.CX P w) 6 T.a_l_place T.d_l_place P_l_place (spD K (pr_l_place T)) := by
  refine T.F_l_place.okX sc_l_place (spD_len fun ds B k e h => by obtain ⟨x, y, a, rfl, hk⟩ := h; rfl) (fun cdv A outer s H vs Q E hr h => ?_)
  have G_Place_init : FnOk P w K mg base (L2.CX P w) _ _ _ _ _ := okD_Place_init T
  obtain ⟨G, ds, B, k, e, hs, hR, ⟨x, y, a, rfl, hk⟩, hK, hX⟩ := h
  refine ⟨_, (pss_one (ps_ret (pe_make T.M_Place G_Place_init (hr.mono (by decide)) (by rfl) T.g_C_Place T.b_Place_init .nil passL (pa_cons (pe_ix ix_tup (pv 0) pe_int (fun _ _ => rfl)) (pa_cons (pe_ix ix_tup (pv 0) pe_int (fun _ _ => rfl)) (pa_cons (pe_ix ix_tup (pv 0) pe_int (fun _ _ => rfl)) pa_nil)))))), run_body (ρ := [some (t3 x y a)]) hs hR hK hX rfl ?_⟩
  refine (ws_ret (we_place T (wa_cons (we_op (we_var rfl (we_int (ro_ixT rfl (wa_cons (we_op (we_var rfl (we_int (ro_ixT rfl (wa_cons (we_op (we_var rfl (we_int (ro_ixT rfl (wa_nil ⟨_, _, _, rfl, ?_⟩))))))))))))))))))
  exact hk
def pr_l_mid (T : Tx K mg) : Pr := fun ds B k e => ds = [penF] ∧ B ≤ 900000 ∧ ∀ i : Int, Bd 60 i → k (.int i) (B + 2)
theorem mem_ints {ns : List Int} {d : D} (h : d ∈ ns.map D.int) : ∃ i, i ∈ ns ∧ d = .int i := by
  obtain ⟨i, hi, e⟩ := List.mem_map.mp h
  exact ⟨i, hi, e.symm⟩
theorem okD_l_mid (T : Tx K mg) : FnOk P w K mg base (L2.CX P w) 3 T.a_l_mid T.d_l_mid P_l_mid (spD K (pr_l_mid T)) := by
  refine T.F_l_mid.okX sc_l_mid (spD_len fun ds B k e h => by obtain ⟨rfl, hB, hk⟩ := h; rfl) (fun cdv A outer s H vs Q E hr h => ?_)
  have G_l_draw : FnOk P w K mg base (L2.CX P w) 1 _ _ _ _ := okD_l_draw T
  have G_l_pick : FnOk P w K mg base (L2.CX P w) 2 _ _ _ _ := okD_l_pick T
  obtain ⟨G, ds, B, k, e, hs, hR, ⟨rfl, hB, hk⟩, hK, hX⟩ := h
  refine ⟨_, (pss_cons (ps_set (i := 1) sc_l_mid.nd rfl (.inl rfl) (pe_op op_sub (pe_call G_l_draw (hr.mono (by decide)) (by rfl) T.g_l_draw T.F_l_draw.kp T.b_l_draw .nil passL (pa_cons (pv 0) (pa_cons pe_int pa_nil))) pe_int))
 (pss_one (ps_ret (pe_op op_add (pv 1) (pe_call G_l_pick (hr.mono (by decide)) (by rfl) T.g_l_pick T.F_l_pick.kp T.b_l_pick .nil passL (pa_cons (pv 0) (pa_cons (pe_lst (pa_cons pe_int (pa_cons pe_int (pa_cons pe_int (pa_cons (pe_op op_pow pe_int pe_int) (pa_cons (pe_un un_neg (pe_op op_pow pe_int pe_int)) pa_nil)))))) pa_nil))))))), run_body (ρ := [some penF, none]) hs hR hK hX rfl ?_⟩
  refine ws_seq (ws_set (we_op (we_call (wa_cons (we_var rfl (wa_cons (we_int (wa_nil ⟨_, rfl, by omega, by omega, by omega, fun d d0 d1 => (we_int (ro_i0 ?_))⟩))))))))
  refine (ws_ret (we_op (we_var rfl (we_call (wa_cons (we_var rfl (wa_cons (we_lst (wa_cons (we_int (wa_cons (we_int (wa_cons (we_int (wa_cons (we_op (we_int (we_int (ro_i ⟨by decide +kernel, by decide +kernel, by decide +kernel⟩ (wa_cons (we_neg (we_op (we_int (we_int (ro_i ⟨by decide +kernel, by decide +kernel, by decide +kernel⟩ ⟨_, rfl, (wa_nil ⟨Nat.le_of_ble_eq_true rfl, (wa_nil ⟨_, rfl, by show 0 < 5; decide, by show 5 ≤ 1000; decide, by omega, fun f hf => ?_⟩)⟩)⟩)))))))))))))))))))))))))
  simp only [List.mem_cons, List.not_mem_nil, or_false] at hf
  rcases hf with rfl | rfl | rfl | rfl | rfl
  all_goals
    refine ro_i0 ?_
    have e : B + 1 + 1 = B + 2 := by omega
    rw [e]
    refine hk _ ?_
    unfold Bd
    have e6 : (10 : Int) ^ (6 : Int).toNat = 1000000 := by decide
    have e15 : (10 : Int) ^ (15 : Int).toNat = 1000000000000000 := by decide
    omega
end
end AW

set_option linter.all false
set_option maxRecDepth 100000
set_option maxHeartbeats 8000000
namespace AW
open PySem PySem.Spec PyProof.Rows L2
variable [Tbs]
section
variable {P : Program} {w : World} {K : PySem.W.Frag} {mg : Str → Option Value} {base : Heap}
theorem ne_of_dec {a b : Int} (h : (!decide (a = b)) = true) : ¬ a = b := by simpa using h
theorem eq_of_dec {a b : Int} (h : (!decide (a = b)) = false) : a = b := by simpa using h
abbrev tr (l : Bz.Tr) : D := t3 l.a l.b l.r
abbrev tm (l : Bz.Tr) : D := t3 l.r l.a l.b
theorem wi_bd {f s : Int} {l h : Bz.Tr} (I : Bz.WI f s l h) (hf : Bd 1000 f) (hs : Bd 1000 s) : Bd 1002 l.a ∧ Bd 1002 l.b ∧ Bd 1002 l.r ∧ Bd 1002 h.a ∧ Bd 1002 h.b ∧ Bd 1002 h.r := by
  have b := I.bd
  unfold Bd at *
  have e : (2 : Nat) ^ 1002 = 4 * 2 ^ 1000 := by rw [show 1002 = 1000 + 2 from rfl, Nat.pow_add] <;> omega
  rw [e]
  generalize (2 : Nat) ^ 1000 = N at *
  omega
theorem wi_bdn {n : Nat} {f s : Int} {l h : Bz.Tr} (I : Bz.WI f s l h) (hf : Bd n f) (hs : Bd n s) : Bd (n + 2) l.a ∧ Bd (n + 2) l.b := by
  have b := I.bd
  unfold Bd at *
  have e : (2 : Nat) ^ (n + 2) = 4 * 2 ^ n := by rw [Nat.pow_add] <;> omega
  rw [e]
  generalize (2 : Nat) ^ n = N at *
  omega
def subD (t : Int) : D → D → D
  | .int a, .int b => .int (a - t * b)
  | _, _ => .non
def pr_bezout (T : Tx K mg) : Pr := fun ds B k e => ∃ (n0 : Nat) (f s : Int), ds = [.int f, .int s] ∧ n0 ≤ 1000 ∧ Bd n0 f ∧ Bd n0 s ∧ ∀ a b : Int, a * f + b * s = (Nat.gcd f.natAbs s.natAbs : Int) → Bd (n0 + 2) a → Bd (n0 + 2) b → k (t2 a b) B
theorem okD_bezout (T : Tx K mg) : FnOk P w K mg base (L2.CX P w) 1 T.a_bezout T.d_bezout P_bezout (spD K (pr_bezout T)) := by
  refine T.F_bezout.okX sc_bezout (spD_len fun ds B k e h => by obtain ⟨n0, f, s1, rfl, hn0, hf0, hs0, hk⟩ := h; rfl) (fun cdv A outer s H vs Q E hr h => ?_)
  obtain ⟨G, ds, B, k, e, hs, hR, ⟨n0, f, s1, rfl, hn0, hf0, hs0, hk⟩, hK, hX⟩ := h
  refine ⟨_, (pss_cons (ps_par (i := 2) (j := 3) (by rfl) sc_bezout.nd rfl rfl (by decide) rfl rfl (pa_cons (pe_tup (pa_cons pe_int (pa_cons pe_int (pa_cons (pv 0) pa_nil)))) (pa_cons (pe_tup (pa_cons pe_int (pa_cons pe_int (pa_cons (pv 1) pa_nil)))) pa_nil)) (by rfl))
 (pss_cons (ps_while (passes_of rfl) (pt_cmpR op_ne (pe_ix ix_tup (pv 3) pe_int (fun _ _ => rfl)) pe_int (nomark _))
 (pss_cons (ps_set (i := 4) sc_bezout.nd rfl (.inr rfl) (pe_op op_fdivG (pe_ix ix_tup (pv 2) pe_int (fun _ _ => rfl)) (pe_ix ix_tup (pv 3) pe_int (fun _ _ => rfl))))
 (pss_one (ps_par (i := 2) (j := 3) (by rfl) sc_bezout.nd rfl rfl (by decide) rfl rfl (pa_cons (pv 3) (pa_cons (pe_callTy call_tuple_of (by rfl) T.n_tuple (by decide +kernel) (pa_cons (pe_lc (own := [("one", 5), ("other", 6)]) (g := gTup K 2 (gCons (gName 5) (gCons (gName 6) gNil))) (by rfl) sc_bezout.nd (RZ.pi_zipA (by rfl) T.n_zip (pa_cons (pv 2) (pa_cons (pv 3) pa_nil))) (blkOk_by (own := [("one", 5), ("other", 6)]) (N := N_bezout) (sc := defScope s_bezout) (by decide +kernel)) (fun _ _ _ _ _ => pg_tup rfl (pgs_cons (pg_name (i := 5) sc_bezout.nd rfl (Or.inl rfl)) (pgs_cons (pg_name (i := 6) sc_bezout.nd rfl (Or.inl rfl)) pgs_nil))) (fun _ _ _ _ _ => pts_nil) (fun _ _ _ _ _ => (pe_op op_sub (pv 5) (pe_op op_mulW (pv 4) (pv 6))))) pa_nil)) pa_nil)) (by rfl)))))
 (pss_cons (ps_if (pt_cmpR op_lt (pe_ix ix_tup (pv 2) pe_int (fun _ _ => rfl)) pe_int (nomark _))
 (pss_one (ps_ret (pe_tup (pa_cons (pe_un un_neg (pe_ix ix_tup (pv 2) pe_int (fun _ _ => rfl))) (pa_cons (pe_un un_neg (pe_ix ix_tup (pv 2) pe_int (fun _ _ => rfl))) pa_nil)))))
 pss_nil)
 (pss_one (ps_ret (pe_tup (pa_cons (pe_ix ix_tup (pv 2) pe_int (fun _ _ => rfl)) (pa_cons (pe_ix ix_tup (pv 2) pe_int (fun _ _ => rfl)) pa_nil)))))))), run_body (ρ := [some (.int f), some (.int s1), none, none, none, none, none]) hs hR hK hX rfl ?_⟩
  have hf := hf0.mono hn0
  have hs1 := hs0.mono hn0
  refine ws_seq (ws_par (wa_cons (we_tup (wa_cons (we_int (wa_cons (we_int (wa_cons (we_var rfl (wa_nil ⟨Nat.le_of_ble_eq_true rfl, (wa_cons (we_tup (wa_cons (we_int (wa_cons (we_int (wa_cons (we_var rfl (wa_nil ⟨Nat.le_of_ble_eq_true rfl, (wa_nil ⟨_, _, rfl, ?_⟩)⟩)))))))))⟩))))))))))
  refine ws_cut (fun ρ' B' => (∃ l h o1, ρ' = [some (.int f), some (.int s1), some (tr l), some (tr h), o1, none, none] ∧ Bz.WI f s1 l h ∧ h.r = 0) ∧ B = B') ?_ ?_
  · refine ws_while (fun n ρ' B' => (∃ l h o1, ρ' = [some (.int f), some (.int s1), some (tr l), some (tr h), o1, none, none] ∧ Bz.WI f s1 l h ∧ h.r.natAbs = n) ∧ B = B') s1.natAbs ⟨⟨⟨1, 0, f⟩, ⟨0, 1, s1⟩, none, rfl, .inl ⟨rfl, rfl⟩, rfl⟩, rfl⟩ ?_
    rintro n ρ' B' ⟨⟨l, h, o1, rfl, I, hn⟩, rfl⟩
    obtain ⟨bla, blb, blr, bha, bhb, bhr⟩ := wi_bd I hf hs1
    refine wt_test (we_op (we_op (we_var rfl (we_int (ro_ixT rfl (we_int (ro_neI ⟨_, rfl, fun h1 => ?_, fun h1 => ?_⟩)))))))
    · have nz := ne_of_dec h1
      have bt : Bd 1002 (l.r.fdiv h.r) := blr.fdiv
      refine ws_seq (ws_set (we_op (we_op (we_var rfl (we_int (ro_ixT rfl (we_op (we_var rfl (we_int (ro_ixT rfl (ro_i (dvg (by assumption) (by apply Bd.mono; (repeat (first | assumption | exact Bd.lit 64 (by decide +kernel) | exact Bd.lit 2000 (by decide +kernel) | apply Bd.neg | apply Bd.fdiv | apply Bd.mul | apply Bd.add2 | apply Bd.sub2)); decide)) ?_)))))))))))
      refine ws_par <| wa_cons <| we_var rfl <| wa_cons <| we_tupleL <| wa_cons <| we_lc_zipT (E1 := E0) (by decide) <| wa_cons <| we_var rfl <| wa_cons <| we_var rfl <| wa_nil ⟨_, _, rfl, rfl, (by show 3 < sizeLine; decide), subD (l.r.fdiv h.r), fun n x y hx hy k' hk' => ?_, wa_nil ⟨_, rfl, wa_nil ⟨_, _, rfl, ?_⟩⟩⟩
      · rcases n with _ | _ | _ | n
        · cases hx; cases hy
          exact we_op (we_var rfl (we_op (we_var rfl (we_var rfl (ro_i (cmc (by apply Bd.mono; (repeat (first | assumption | exact Bd.lit 64 (by decide +kernel) | exact Bd.lit 2000 (by decide +kernel) | apply Bd.neg | apply Bd.fdiv | apply Bd.mul | apply Bd.add2 | apply Bd.sub2)); decide) (by apply Bd.mono; (repeat (first | assumption | exact Bd.lit 64 (by decide +kernel) | exact Bd.lit 2000 (by decide +kernel) | apply Bd.neg | apply Bd.fdiv | apply Bd.mul | apply Bd.add2 | apply Bd.sub2)); decide)) (ro_i0 hk'))))))
        · cases hx; cases hy
          exact we_op (we_var rfl (we_op (we_var rfl (we_var rfl (ro_i (cmc (by apply Bd.mono; (repeat (first | assumption | exact Bd.lit 64 (by decide +kernel) | exact Bd.lit 2000 (by decide +kernel) | apply Bd.neg | apply Bd.fdiv | apply Bd.mul | apply Bd.add2 | apply Bd.sub2)); decide) (by apply Bd.mono; (repeat (first | assumption | exact Bd.lit 64 (by decide +kernel) | exact Bd.lit 2000 (by decide +kernel) | apply Bd.neg | apply Bd.fdiv | apply Bd.mul | apply Bd.add2 | apply Bd.sub2)); decide)) (ro_i0 hk'))))))
        · cases hx; cases hy
          exact we_op (we_var rfl (we_op (we_var rfl (we_var rfl (ro_i (cmc (by apply Bd.mono; (repeat (first | assumption | exact Bd.lit 64 (by decide +kernel) | exact Bd.lit 2000 (by decide +kernel) | apply Bd.neg | apply Bd.fdiv | apply Bd.mul | apply Bd.add2 | apply Bd.sub2)); decide) (by apply Bd.mono; (repeat (first | assumption | exact Bd.lit 64 (by decide +kernel) | exact Bd.lit 2000 (by decide +kernel) | apply Bd.neg | apply Bd.fdiv | apply Bd.mul | apply Bd.add2 | apply Bd.sub2)); decide)) (ro_i0 hk'))))))
        · cases hx
      · have I2 := I.step nz
        exact ⟨_, by rw [← hn]; exact I2.lt, ⟨h, Bz.stp l h, _, rfl, .inr I2, rfl⟩, rfl⟩
    · exact ⟨⟨l, h, o1, rfl, I, eq_of_dec h1⟩, rfl⟩
  rintro _ _ ⟨⟨l, h, o1, rfl, I, hz⟩, rfl⟩
  obtain ⟨bla, blb, blr, bha, bhb, bhr⟩ := wi_bd I hf hs1
  obtain ⟨q1, q2⟩ := I.out hz
  refine ws_seq (ws_if (wt_test (we_op (we_op (we_var rfl (we_int (ro_ixT rfl (we_int (ro_b0 ⟨_, rfl, ⟨fun hc1 => ?_, fun hc2 => ?_⟩⟩)))))))))
  · refine (ws_ret (we_tup (wa_cons (we_neg (we_op (we_var rfl (we_int (ro_ixT rfl ⟨_, rfl, (wa_cons (we_neg (we_op (we_var rfl (we_int (ro_ixT rfl ⟨_, rfl, (wa_nil ⟨Nat.le_of_ble_eq_true rfl, ?_⟩)⟩))))))⟩))))))))
    exact hk _ _ (q1 (of_decide_eq_true hc1)) (wi_bdn I hf0 hs0).1.neg (wi_bdn I hf0 hs0).2.neg
  · refine ws_next ?_
    refine (ws_ret (we_tup (wa_cons (we_op (we_var rfl (we_int (ro_ixT rfl (wa_cons (we_op (we_var rfl (we_int (ro_ixT rfl (wa_nil ⟨Nat.le_of_ble_eq_true rfl, ?_⟩)))))))))))))
    exact hk _ _ (q2 (of_decide_eq_false hc2)) (wi_bdn I hf0 hs0).1 (wi_bdn I hf0 hs0).2
theorem abs_if (z : Int) : (if z < 0 then -z else z) = (z.natAbs : Int) := by split <;> omega
def pr_l_gcd (T : Tx K mg) : Pr := fun ds B k e => ∃ f s : Int, ds = [.int f, .int s] ∧ Bd 1000 f ∧ Bd 1000 s ∧ k (.int (Nat.gcd f.natAbs s.natAbs : Nat)) B
def pr_l_made (T : Tx K mg) : Pr := fun ds B k e => ∃ (n0 : Nat) (f s : Int), ds = [.int f, .int s] ∧ n0 ≤ 1000 ∧ Bd n0 f ∧ Bd n0 s ∧ ∀ a b : Int, a * f + b * s = (Nat.gcd f.natAbs s.natAbs : Int) → Bd (n0 + 2) a → Bd (n0 + 2) b → k (t2 a b) B
end
end AW

set_option linter.all false
set_option maxRecDepth 100000
set_option maxHeartbeats 8000000
namespace AW
open PySem PySem.Spec PyProof.Rows L2
variable [Tbs]
section
variable {P : Program} {w : World} {K : PySem.W.Frag} {mg : Str → Option Value} {base : Heap}
abbrev T3 := Int × Int × Int
abbrev tD (p : T3) : D := t3 p.1 p.2.1 p.2.2
abbrev plT (T : Tx K mg) (p : T3) : D := pl T p.1 p.2.1 p.2.2
/-- a renaming as data -/
def rn (T : Tx K mg) (e n : T3) : D := .ins T.C_Renaming ["east", "north"] [plT T e, plT T n]
def gd (T : Tx K mg) (d : D) : Prop := ∃ x y a, core d = pl T x y a
variable {E : XK} {e : EW} {ρ : List (Option D)} {B : Int} {k : KD} {κ : KS} {ta tb : TE} {t : TA}
theorem we_fe (T : Tx K mg) (h : We K E e ta ρ B fun d B1 => ∃ a b, d = rn T a b ∧ k (plT T a) B1) : We K E e (tFld K ta "east") ρ B k :=
  we_fld (h.imp fun d B1 ⟨a, b, ed, hk⟩ => ⟨_, _, _, plT T a, ed, T.cl_Renaming, T.na_Renaming_east, by simp [List.lookup], hk⟩)
theorem we_fn (T : Tx K mg) (h : We K E e ta ρ B fun d B1 => ∃ a b, d = rn T a b ∧ k (plT T b) B1) : We K E e (tFld K ta "north") ρ B k :=
  we_fld (h.imp fun d B1 ⟨a, b, ed, hk⟩ => ⟨_, _, _, plT T b, ed, T.cl_Renaming, T.na_Renaming_north, by
    have h1 : (("north" : Str) == "east") = false := by decide +kernel
    simp [List.lookup, h1], hk⟩)
theorem we_isi_Renaming (T : Tx K mg) (h : Wa K E e t ρ B fun ds B1 => ∃ a b, ds = [rn T a b, .val (.ref T.C_Renaming)] ∧ k (.bl true) B1) : We K E e (tCB (rIsi K) t) ρ B k :=
  we_cb fun σ H G Q s en x q => h σ H G Q s en x fun ds vs B1 G1 H1 ⟨a, b, ed, hk⟩ e1 r1 => q ds vs B1 G1 H1 (fun ws H2 G2 Q2 s2 r2 q2 => by
    subst ed
    obtain ⟨v, _, rfl, ⟨p, dx, us, rfl, hp, hl, hr⟩, c, _, rfl, rc, rfl⟩ := r2
    rw [show c = _ from rc]
    exact ⟨_, _, _, _, true, rfl, .own _, .base (.ins (s2 _ _ hp) T.cl_Renaming T.ca_Renaming T.cn T.ct T.cm_Renaming), kit_self, q2 _ _ _ _ _ hk (Ext.refl s2) rfl⟩) e1 r1
def pr_check_places (T : Tx K mg) : Pr := fun ds B k e => ∃ (sb : Bool) (xs : List D), ds = [seqD sb xs] ∧ (((∀ x ∈ xs, gd T x) ∧ k .non B) ∨ ∃ (j : Nat) (d : D), xs[j]? = some d ∧ plainD d = true ∧ (∀ (i : Nat) x, i < j → xs[i]? = some x → gd T x) ∧ e T.C_BadPlace (some ((["value"] : List Str), [d])) B)
theorem okD_check_places (T : Tx K mg) : FnOk P w K mg base (L2.CX P w) 4 T.a_check_places T.d_check_places P_check_places (spD K (pr_check_places T)) := by
  refine T.F_check_places.okX sc_check_places (spD_len fun ds B k e h => by obtain ⟨sb, xs, rfl, hk⟩ := h; rfl) (fun cdv A outer s H vs Q E hr h => ?_)
  have G_check_place : FnOk P w K mg base (L2.CX P w) _ _ _ _ _ := okD_check_place T
  obtain ⟨G, ds, B, k, e, hs, hR, ⟨sb, xs, rfl, hk⟩, hK, hX⟩ := h
  refine ⟨_, (pss_one (ps_for (passes_of rfl) rfl (pi_or (pi_list (pv 0)) (pi_tup (pv 0))) (pg_name (i := 1) sc_check_places.nd rfl (.inl rfl))
 (pss_one (ps_expr (pe_call G_check_place (hr.mono (by decide)) (by rfl) T.g_check_place T.F_check_place.kp T.b_check_place .nil (passE (E := E)) (pa_cons (pv 1) pa_nil)))))), run_body (ρ := [some (seqD sb xs), none]) hs hR hK hX rfl ?_⟩
  rcases hk with ⟨hg, hk⟩ | ⟨j, d, hj, pj, hg, he⟩
  · refine ws_for_seq sb (we_var rfl ⟨_, rfl, fun i ρ' B' => (∃ o, ρ' = [some (seqD sb xs), o]) ∧ B' = B, ⟨⟨_, rfl⟩, rfl⟩, fun i x ρ' B' hi hI => ?_, fun ρ' B' hI => ?_⟩)
    · obtain ⟨⟨o, rfl⟩, rfl⟩ := hI
      refine wg_name ?_
      obtain ⟨a, b, c, ec⟩ := hg x (List.mem_of_getElem? hi)
      exact ws_drop (we_callE (wa_cons (we_var rfl (wa_nil ⟨_, rfl, .inl ⟨a, b, c, ec, ⟨⟨_, rfl⟩, rfl⟩⟩⟩))))
    · obtain ⟨_, rfl⟩ := hI
      exact hk
  · refine ws_for_seq sb (we_var rfl ⟨_, rfl, fun i ρ' B' => (∃ o, ρ' = [some (seqD sb xs), o]) ∧ i ≤ j ∧ B' = B, ⟨⟨_, rfl⟩, Nat.zero_le _, rfl⟩, fun i x ρ' B' hi hI => ?_, fun ρ' B' hI => ?_⟩)
    · obtain ⟨⟨o, rfl⟩, hij, rfl⟩ := hI
      refine wg_name ?_
      by_cases q : i = j
      · subst q
        rw [hj] at hi
        cases hi
        exact ws_drop (we_callE (wa_cons (we_var rfl (wa_nil ⟨_, rfl, .inr ⟨pj, he⟩⟩))))
      · obtain ⟨a, b, c, ec⟩ := hg i x (by omega) hi
        exact ws_drop (we_callE (wa_cons (we_var rfl (wa_nil ⟨_, rfl, .inl ⟨a, b, c, ec, ⟨⟨_, rfl⟩, by omega, rfl⟩⟩⟩))))
    · obtain ⟨_, hl, _⟩ := hI
      have := (List.getElem?_eq_some_iff.mp hj).1
      omega
def pr_Renaming_init (T : Tx K mg) : List D → Int → (List D → Int → Prop) → EW → Prop := fun ds B k e => ∃ d1 d2, ds = [d1, d2] ∧ ((∃ x y a p q r, d1 = pl T x y a ∧ d2 = pl T p q r ∧ k [d1, d2] B) ∨ (plainD d1 = true ∧ e T.C_BadPlace (some ((["value"] : List Str), [d1])) B) ∨ (∃ x y a, d1 = pl T x y a ∧ plainD d2 = true ∧ e T.C_BadPlace (some ((["value"] : List Str), [d2])) B))
theorem okD_Renaming_init (T : Tx K mg) : FnOk P w K mg base (L2.CX P w) 5 T.a_Renaming_init T.d_Renaming_init P_Renaming_init (spI K T.C_Renaming ["east", "north"] (pr_Renaming_init T)) := by
  have G_check_places : FnOk P w K mg base (L2.CX P w) 4 _ _ _ _ := okD_check_places T
  refine T.F_Renaming_init.okX sc_Renaming_init (fun vs H Q E h => ?_) (fun cdv A outer s H vs Q E hr h => ?_)
  · obtain ⟨p, dx, ws, G, ds, B, k, e, rfl, hp, gp, gdx, ne, hd, hs, hR, ⟨d1, d2, rfl, _⟩, hK, hX⟩ := h
    rw [List.length_cons, ← hR.length]
    rfl
  · obtain ⟨p, dx, ws, G, ds, B, k, e, rfl, hp, gp, gdx, ne, hd, hs, hR, ⟨d1, d2, rfl, hk⟩, hK, hX⟩ := h
    obtain ⟨v1, _, rfl, r1, v2, _, rfl, r2, rfl⟩ := hR
    refine ⟨_, (pss_cons (ps_expr (pe_call G_check_places (hr.mono (by decide)) (by rfl) T.g_check_places T.F_check_places.kp T.b_check_places .nil (passE (E := E)) (pa_cons (pe_lst (pa_cons (pv 1) (pa_cons (pv 2) pa_nil))) pa_nil)))
 (pss_cons (ps_fld (pv 0) (pv 1) rfl)
 (pss_one (ps_fld (pv 0) (pv 2) rfl)))), ?_⟩
    have en : EnvR K G B [some (.val (.ref p)), some d1, some d2] (L2.start N_Renaming_init [.ref p, v1, v2]) := ⟨_, _, rfl, fun d q => by cases q; exact ⟨_, rfl, rfl⟩, _, _, rfl, fun d q => by cases q; exact ⟨_, rfl, r1⟩, _, _, rfl, fun d q => by cases q; exact ⟨_, rfl, r2⟩, rfl⟩
    have J : Ws K E e (tDrop (tCall (spD K (pr_check_places T)) [] E (tCons (tLst (tCons (tVar 1) (tCons (tVar 2) tNil))) tNil))) [some (.val (.ref p)), some d1, some d2] B { nx := fun ρ' B' => ρ' = [some (.val (.ref p)), some d1, some d2] ∧ k [d1, d2] B', rt := fun _ _ => False } := by
      refine ws_drop (we_callE (wa_cons (we_lst (wa_cons (we_var rfl (wa_cons (we_var rfl (wa_nil ⟨Nat.le_of_ble_eq_true rfl, wa_nil ⟨false, _, rfl, ?_⟩⟩))))))))
      rcases hk with ⟨x, y, a, p, q, r, rfl, rfl, hk⟩ | ⟨h1, h2⟩ | ⟨x, y, a, rfl, h1, h2⟩
      · refine .inl ⟨fun x hx => ?_, rfl, hk⟩
        simp only [List.mem_cons, List.not_mem_nil, or_false] at hx
        rcases hx with rfl | rfl <;> exact ⟨_, _, _, rfl⟩
      · exact .inr ⟨0, _, rfl, h1, fun i x hi => absurd hi (Nat.not_lt_zero _), h2⟩
      · refine .inr ⟨1, _, rfl, h1, fun i x hi hx => ?_, h2⟩
        obtain rfl : i = 0 := by omega
        cases hx
        exact ⟨_, _, _, rfl⟩
    refine J _ H G _ hs en hX ⟨fun ρ' σ' B' G' H' hz ex en' => ?_, fun _ _ _ _ _ h => h.elim, fun _ _ _ _ _ h => h.elim, fun _ _ _ _ _ h => h.elim⟩
    obtain ⟨eρ, hk'⟩ := hz
    subst eρ
    obtain ⟨_, _, rfl, h0, _, _, rfl, h1, _, _, rfl, h2, rfl⟩ := en'
    obtain ⟨u0, rfl, e0⟩ := h0 _ rfl
    obtain ⟨u1, rfl, q1⟩ := h1 _ rfl
    obtain ⟨u2, rfl, q2⟩ := h2 _ rfl
    obtain rfl : u0 = .ref p := e0
    obtain ⟨hp', gp'⟩ := ex.fr p _ hp gp (fun _ z => nomatch z)
    refine ⟨_, rfl, _, rfl, p, T.C_Renaming, dx, [], rfl, hp', T.cl_Renaming, T.na_Renaming_east, (by decide), ?_⟩
    refine ⟨_, rfl, _, rfl, p, T.C_Renaming, dx, _, rfl, upd_same, T.cl_Renaming, T.na_Renaming_north, (by show 1 < 1000; decide), ?_⟩
    have kne : ¬ (("north" : Str) = "east") := by decide +kernel
    refine hK [d1, d2] [u1, u2] B' G' _ hk' ex.le (fun a o z => ?_) (fun a o z n nb nt => ?_) gp' ?_ rfl ⟨_, _, rfl, q1, _, _, rfl, q2, rfl⟩
    · have hq : a ≠ p := ne_of_none z gp'
      rw [upd_ne hq, upd_ne hq]
      exact ex.sub _ _ z
    · obtain ⟨z1, z2⟩ := ex.fr a o z n nt
      exact ⟨by rw [upd_ne nb, upd_ne nb]; exact z1, z2⟩
    · rw [upd_same]
      simp [putF, kne, Ne.symm kne]
end
end AW

set_option linter.all false
set_option maxRecDepth 100000
set_option maxHeartbeats 8000000
namespace AW
open PySem PySem.Spec PyProof.Rows L2
variable [Tbs]
section
variable {P : Program} {w : World} {K : PySem.W.Frag} {mg : Str → Option Value} {base : Heap}
def imT (e n p : T3) : T3 := (p.1 * e.1 + p.2.1 * n.1, p.1 * e.2.1 + p.2.1 * n.2.1, p.2.1 * n.2.2 + n.1 * n.2.1 * (p.2.1 * (p.2.1 - 1)).fdiv 2 + (p.1 * e.2.2 + e.1 * e.2.1 * (p.1 * (p.1 - 1)).fdiv 2) + p.2.1 * n.1 * p.1 * e.2.1 + (e.1 * n.2.1 - n.1 * e.2.1) * p.2.2)
def pr_image_figures (T : Tx K mg) : Pr := fun ds B k e => ∃ p q s r t u x y a : Int, ds = [pl T p q s, pl T r t u, pl T x y a] ∧ Bd 20000 p ∧ Bd 20000 q ∧ Bd 20000 s ∧ Bd 20000 r ∧ Bd 20000 t ∧ Bd 20000 u ∧ Bd 20000 x ∧ Bd 20000 y ∧ Bd 20000 a ∧ k (tD (imT (p, q, s) (r, t, u) (x, y, a))) B
theorem okD_image_figures (T : Tx K mg) : FnOk P w K mg base (L2.CX P w) 7 T.a_image_figures T.d_image_figures P_image_figures (spD K (pr_image_figures T)) := by
  refine T.F_image_figures.okX sc_image_figures (spD_len fun ds B k e h => by obtain ⟨p, q, s1, r, t, u, x, y, a, rfl, hp, hq, hs1, hr1, ht, hu1, hx, hy, ha, hk⟩ := h; rfl) (fun cdv A outer s H vs Q E hr h => ?_)
  have G_Place_twist : FnOk P w K mg base (L2.CX P w) 6 _ _ _ _ := okD_Place_twist T
  obtain ⟨G, ds, B, k, e, hs, hR, ⟨p, q, s1, r, t, u, x, y, a, rfl, hp, hq, hs1, hr1, ht, hu1, hx, hy, ha, hk⟩, hK, hX⟩ := h
  refine ⟨_, (pss_cons (ps_par (i := 3) (j := 4) (by rfl) sc_image_figures.nd rfl rfl (by decide) rfl rfl (pa_cons (pe_fld (pv 2) rfl) (pa_cons (pe_fld (pv 2) rfl) pa_nil)) (by rfl))
 (pss_cons (ps_set (i := 5) sc_image_figures.nd rfl (.inl rfl) (pe_op op_add (pe_op op_mulW (pv 3) (pe_fld (pv 0) rfl)) (pe_op op_mulW (pe_op op_mulW (pe_fld (pv 0) rfl) (pe_fld (pv 0) rfl)) (pe_op op_fdivG (pe_op op_mulW (pv 3) (pe_op op_sub (pv 3) pe_int)) pe_int))))
 (pss_cons (ps_set (i := 6) sc_image_figures.nd rfl (.inl rfl) (pe_op op_add (pe_op op_mulW (pv 4) (pe_fld (pv 1) rfl)) (pe_op op_mulW (pe_op op_mulW (pe_fld (pv 1) rfl) (pe_fld (pv 1) rfl)) (pe_op op_fdivG (pe_op op_mulW (pv 4) (pe_op op_sub (pv 4) pe_int)) pe_int))))
 (pss_cons (ps_set (i := 7) sc_image_figures.nd rfl (.inl rfl) (pe_op op_add (pe_op op_add (pe_op op_add (pv 6) (pv 5)) (pe_op op_mulW (pe_op op_mulW (pe_op op_mulW (pv 4) (pe_fld (pv 1) rfl)) (pv 3)) (pe_fld (pv 0) rfl))) (pe_op op_mulW (pe_meth (pv 0) T.cl_Place T.M_Place_twist G_Place_twist (hr.mono (by decide)) T.b_Place_twist .nil passL (pa_cons (pv 1) pa_nil)) (pe_fld (pv 2) rfl))))
 (pss_one (ps_ret (pe_tup (pa_cons (pe_op op_add (pe_op op_mulW (pv 3) (pe_fld (pv 0) rfl)) (pe_op op_mulW (pv 4) (pe_fld (pv 1) rfl))) (pa_cons (pe_op op_add (pe_op op_mulW (pv 3) (pe_fld (pv 0) rfl)) (pe_op op_mulW (pv 4) (pe_fld (pv 1) rfl))) (pa_cons (pv 7) pa_nil)))))))))), run_body (ρ := [some (pl T p q s1), some (pl T r t u), some (pl T x y a), none, none, none, none, none]) hs hR hK hX rfl ?_⟩
  refine ws_seq (ws_par (wa_cons (we_fx T (we_var rfl ⟨_, _, _, rfl, (wa_cons (we_fy T (we_var rfl ⟨_, _, _, rfl, (wa_nil ⟨_, _, rfl, ?_⟩)⟩)))⟩))))
  refine ws_seq (ws_set (we_op (we_op (we_var rfl (we_fa T (we_var rfl ⟨_, _, _, rfl, (ro_i (cmc (by apply Bd.mono; (repeat (first | assumption | exact Bd.lit 64 (by decide +kernel) | exact Bd.lit 2000 (by decide +kernel) | apply Bd.neg | apply Bd.fdiv | apply Bd.mul | apply Bd.add2 | apply Bd.sub2)); decide) (by apply Bd.mono; (repeat (first | assumption | exact Bd.lit 64 (by decide +kernel) | exact Bd.lit 2000 (by decide +kernel) | apply Bd.neg | apply Bd.fdiv | apply Bd.mul | apply Bd.add2 | apply Bd.sub2)); decide)) (we_op (we_op (we_fx T (we_var rfl ⟨_, _, _, rfl, (we_fy T (we_var rfl ⟨_, _, _, rfl, (ro_i (cmc (by apply Bd.mono; (repeat (first | assumption | exact Bd.lit 64 (by decide +kernel) | exact Bd.lit 2000 (by decide +kernel) | apply Bd.neg | apply Bd.fdiv | apply Bd.mul | apply Bd.add2 | apply Bd.sub2)); decide) (by apply Bd.mono; (repeat (first | assumption | exact Bd.lit 64 (by decide +kernel) | exact Bd.lit 2000 (by decide +kernel) | apply Bd.neg | apply Bd.fdiv | apply Bd.mul | apply Bd.add2 | apply Bd.sub2)); decide)) (we_op (we_op (we_var rfl (we_op (we_var rfl (we_int (ro_i0 (ro_i (cmc (by apply Bd.mono; (repeat (first | assumption | exact Bd.lit 64 (by decide +kernel) | exact Bd.lit 2000 (by decide +kernel) | apply Bd.neg | apply Bd.fdiv | apply Bd.mul | apply Bd.add2 | apply Bd.sub2)); decide) (by apply Bd.mono; (repeat (first | assumption | exact Bd.lit 64 (by decide +kernel) | exact Bd.lit 2000 (by decide +kernel) | apply Bd.neg | apply Bd.fdiv | apply Bd.mul | apply Bd.add2 | apply Bd.sub2)); decide)) (we_int (ro_i ⟨by decide +kernel, by decide +kernel⟩ (ro_i (cmc (by apply Bd.mono; (repeat (first | assumption | exact Bd.lit 64 (by decide +kernel) | exact Bd.lit 2000 (by decide +kernel) | apply Bd.neg | apply Bd.fdiv | apply Bd.mul | apply Bd.add2 | apply Bd.sub2)); decide) (by apply Bd.mono; (repeat (first | assumption | exact Bd.lit 64 (by decide +kernel) | exact Bd.lit 2000 (by decide +kernel) | apply Bd.neg | apply Bd.fdiv | apply Bd.mul | apply Bd.add2 | apply Bd.sub2)); decide)) (ro_i0 ?_)))))))))))))⟩))⟩)))))⟩))))))
  refine ws_seq (ws_set (we_op (we_op (we_var rfl (we_fa T (we_var rfl ⟨_, _, _, rfl, (ro_i (cmc (by apply Bd.mono; (repeat (first | assumption | exact Bd.lit 64 (by decide +kernel) | exact Bd.lit 2000 (by decide +kernel) | apply Bd.neg | apply Bd.fdiv | apply Bd.mul | apply Bd.add2 | apply Bd.sub2)); decide) (by apply Bd.mono; (repeat (first | assumption | exact Bd.lit 64 (by decide +kernel) | exact Bd.lit 2000 (by decide +kernel) | apply Bd.neg | apply Bd.fdiv | apply Bd.mul | apply Bd.add2 | apply Bd.sub2)); decide)) (we_op (we_op (we_fx T (we_var rfl ⟨_, _, _, rfl, (we_fy T (we_var rfl ⟨_, _, _, rfl, (ro_i (cmc (by apply Bd.mono; (repeat (first | assumption | exact Bd.lit 64 (by decide +kernel) | exact Bd.lit 2000 (by decide +kernel) | apply Bd.neg | apply Bd.fdiv | apply Bd.mul | apply Bd.add2 | apply Bd.sub2)); decide) (by apply Bd.mono; (repeat (first | assumption | exact Bd.lit 64 (by decide +kernel) | exact Bd.lit 2000 (by decide +kernel) | apply Bd.neg | apply Bd.fdiv | apply Bd.mul | apply Bd.add2 | apply Bd.sub2)); decide)) (we_op (we_op (we_var rfl (we_op (we_var rfl (we_int (ro_i0 (ro_i (cmc (by apply Bd.mono; (repeat (first | assumption | exact Bd.lit 64 (by decide +kernel) | exact Bd.lit 2000 (by decide +kernel) | apply Bd.neg | apply Bd.fdiv | apply Bd.mul | apply Bd.add2 | apply Bd.sub2)); decide) (by apply Bd.mono; (repeat (first | assumption | exact Bd.lit 64 (by decide +kernel) | exact Bd.lit 2000 (by decide +kernel) | apply Bd.neg | apply Bd.fdiv | apply Bd.mul | apply Bd.add2 | apply Bd.sub2)); decide)) (we_int (ro_i ⟨by decide +kernel, by decide +kernel⟩ (ro_i (cmc (by apply Bd.mono; (repeat (first | assumption | exact Bd.lit 64 (by decide +kernel) | exact Bd.lit 2000 (by decide +kernel) | apply Bd.neg | apply Bd.fdiv | apply Bd.mul | apply Bd.add2 | apply Bd.sub2)); decide) (by apply Bd.mono; (repeat (first | assumption | exact Bd.lit 64 (by decide +kernel) | exact Bd.lit 2000 (by decide +kernel) | apply Bd.neg | apply Bd.fdiv | apply Bd.mul | apply Bd.add2 | apply Bd.sub2)); decide)) (ro_i0 ?_)))))))))))))⟩))⟩)))))⟩))))))
  refine ws_seq (ws_set (we_op (we_op (we_op (we_var rfl (we_var rfl (ro_i0 (we_op (we_op (we_op (we_var rfl (we_fx T (we_var rfl ⟨_, _, _, rfl, (ro_i (cmc (by apply Bd.mono; (repeat (first | assumption | exact Bd.lit 64 (by decide +kernel) | exact Bd.lit 2000 (by decide +kernel) | apply Bd.neg | apply Bd.fdiv | apply Bd.mul | apply Bd.add2 | apply Bd.sub2)); decide) (by apply Bd.mono; (repeat (first | assumption | exact Bd.lit 64 (by decide +kernel) | exact Bd.lit 2000 (by decide +kernel) | apply Bd.neg | apply Bd.fdiv | apply Bd.mul | apply Bd.add2 | apply Bd.sub2)); decide)) (we_var rfl (ro_i (cmc (by apply Bd.mono; (repeat (first | assumption | exact Bd.lit 64 (by decide +kernel) | exact Bd.lit 2000 (by decide +kernel) | apply Bd.neg | apply Bd.fdiv | apply Bd.mul | apply Bd.add2 | apply Bd.sub2)); decide) (by apply Bd.mono; (repeat (first | assumption | exact Bd.lit 64 (by decide +kernel) | exact Bd.lit 2000 (by decide +kernel) | apply Bd.neg | apply Bd.fdiv | apply Bd.mul | apply Bd.add2 | apply Bd.sub2)); decide)) (we_fy T (we_var rfl ⟨_, _, _, rfl, (ro_i (cmc (by apply Bd.mono; (repeat (first | assumption | exact Bd.lit 64 (by decide +kernel) | exact Bd.lit 2000 (by decide +kernel) | apply Bd.neg | apply Bd.fdiv | apply Bd.mul | apply Bd.add2 | apply Bd.sub2)); decide) (by apply Bd.mono; (repeat (first | assumption | exact Bd.lit 64 (by decide +kernel) | exact Bd.lit 2000 (by decide +kernel) | apply Bd.neg | apply Bd.fdiv | apply Bd.mul | apply Bd.add2 | apply Bd.sub2)); decide)) (ro_i0 (we_op (we_meth (we_var rfl ⟨_, _, rfl, by decide +kernel, (wa_cons (we_var rfl (wa_nil ⟨_, _, _, _, _, _, rfl, (by apply Bd.mono; (repeat (first | assumption | exact Bd.lit 64 (by decide +kernel) | exact Bd.lit 2000 (by decide +kernel) | apply Bd.neg | apply Bd.fdiv | apply Bd.mul | apply Bd.add2 | apply Bd.sub2)); decide), (by apply Bd.mono; (repeat (first | assumption | exact Bd.lit 64 (by decide +kernel) | exact Bd.lit 2000 (by decide +kernel) | apply Bd.neg | apply Bd.fdiv | apply Bd.mul | apply Bd.add2 | apply Bd.sub2)); decide), (by apply Bd.mono; (repeat (first | assumption | exact Bd.lit 64 (by decide +kernel) | exact Bd.lit 2000 (by decide +kernel) | apply Bd.neg | apply Bd.fdiv | apply Bd.mul | apply Bd.add2 | apply Bd.sub2)); decide), (by apply Bd.mono; (repeat (first | assumption | exact Bd.lit 64 (by decide +kernel) | exact Bd.lit 2000 (by decide +kernel) | apply Bd.neg | apply Bd.fdiv | apply Bd.mul | apply Bd.add2 | apply Bd.sub2)); decide), (we_fa T (we_var rfl ⟨_, _, _, rfl, (ro_i (cmc (by apply Bd.mono; (repeat (first | assumption | exact Bd.lit 64 (by decide +kernel) | exact Bd.lit 2000 (by decide +kernel) | apply Bd.neg | apply Bd.fdiv | apply Bd.mul | apply Bd.add2 | apply Bd.sub2)); decide) (by apply Bd.mono; (repeat (first | assumption | exact Bd.lit 64 (by decide +kernel) | exact Bd.lit 2000 (by decide +kernel) | apply Bd.neg | apply Bd.fdiv | apply Bd.mul | apply Bd.add2 | apply Bd.sub2)); decide)) (ro_i0 ?_))⟩))⟩)))⟩)))))⟩)))))⟩)))))))))))))
  refine (ws_ret (we_tup (wa_cons (we_op (we_op (we_var rfl (we_fx T (we_var rfl ⟨_, _, _, rfl, (ro_i (cmc (by apply Bd.mono; (repeat (first | assumption | exact Bd.lit 64 (by decide +kernel) | exact Bd.lit 2000 (by decide +kernel) | apply Bd.neg | apply Bd.fdiv | apply Bd.mul | apply Bd.add2 | apply Bd.sub2)); decide) (by apply Bd.mono; (repeat (first | assumption | exact Bd.lit 64 (by decide +kernel) | exact Bd.lit 2000 (by decide +kernel) | apply Bd.neg | apply Bd.fdiv | apply Bd.mul | apply Bd.add2 | apply Bd.sub2)); decide)) (we_op (we_var rfl (we_fx T (we_var rfl ⟨_, _, _, rfl, (ro_i (cmc (by apply Bd.mono; (repeat (first | assumption | exact Bd.lit 64 (by decide +kernel) | exact Bd.lit 2000 (by decide +kernel) | apply Bd.neg | apply Bd.fdiv | apply Bd.mul | apply Bd.add2 | apply Bd.sub2)); decide) (by apply Bd.mono; (repeat (first | assumption | exact Bd.lit 64 (by decide +kernel) | exact Bd.lit 2000 (by decide +kernel) | apply Bd.neg | apply Bd.fdiv | apply Bd.mul | apply Bd.add2 | apply Bd.sub2)); decide)) (ro_i0 (wa_cons (we_op (we_op (we_var rfl (we_fy T (we_var rfl ⟨_, _, _, rfl, (ro_i (cmc (by apply Bd.mono; (repeat (first | assumption | exact Bd.lit 64 (by decide +kernel) | exact Bd.lit 2000 (by decide +kernel) | apply Bd.neg | apply Bd.fdiv | apply Bd.mul | apply Bd.add2 | apply Bd.sub2)); decide) (by apply Bd.mono; (repeat (first | assumption | exact Bd.lit 64 (by decide +kernel) | exact Bd.lit 2000 (by decide +kernel) | apply Bd.neg | apply Bd.fdiv | apply Bd.mul | apply Bd.add2 | apply Bd.sub2)); decide)) (we_op (we_var rfl (we_fy T (we_var rfl ⟨_, _, _, rfl, (ro_i (cmc (by apply Bd.mono; (repeat (first | assumption | exact Bd.lit 64 (by decide +kernel) | exact Bd.lit 2000 (by decide +kernel) | apply Bd.neg | apply Bd.fdiv | apply Bd.mul | apply Bd.add2 | apply Bd.sub2)); decide) (by apply Bd.mono; (repeat (first | assumption | exact Bd.lit 64 (by decide +kernel) | exact Bd.lit 2000 (by decide +kernel) | apply Bd.neg | apply Bd.fdiv | apply Bd.mul | apply Bd.add2 | apply Bd.sub2)); decide)) (ro_i0 (wa_cons (we_var rfl (wa_nil ⟨Nat.le_of_ble_eq_true rfl, ?_⟩)))))⟩)))))⟩))))))))⟩)))))⟩))))))))
  exact hk
def pr_image_by (T : Tx K mg) : Pr := fun ds B k e => ∃ p q s r t u x y a : Int, ds = [rn T (p, q, s) (r, t, u), pl T x y a] ∧ Bd 20000 p ∧ Bd 20000 q ∧ Bd 20000 s ∧ Bd 20000 r ∧ Bd 20000 t ∧ Bd 20000 u ∧ Bd 20000 x ∧ Bd 20000 y ∧ Bd 20000 a ∧ k (plT T (imT (p, q, s) (r, t, u) (x, y, a))) B
theorem okD_image_by (T : Tx K mg) : FnOk P w K mg base (L2.CX P w) 8 T.a_image_by T.d_image_by P_image_by (spD K (pr_image_by T)) := by
  refine T.F_image_by.okX sc_image_by (spD_len fun ds B k e h => by obtain ⟨p, q, s1, r, t, u, x, y, a, rfl, hp, hq, hs1, hr1, ht, hu1, hx, hy, ha, hk⟩ := h; rfl) (fun cdv A outer s H vs Q E hr h => ?_)
  have G_Place_init : FnOk P w K mg base (L2.CX P w) _ _ _ _ _ := okD_Place_init T
  have G_image_figures : FnOk P w K mg base (L2.CX P w) 7 _ _ _ _ := okD_image_figures T
  obtain ⟨G, ds, B, k, e, hs, hR, ⟨p, q, s1, r, t, u, x, y, a, rfl, hp, hq, hs1, hr1, ht, hu1, hx, hy, ha, hk⟩, hK, hX⟩ := h
  refine ⟨_, (pss_cons (ps_asg (pe_call G_image_figures (hr.mono (by decide)) (by rfl) T.g_image_figures T.F_image_figures.kp T.b_image_figures .nil passL (pa_cons (pe_fld (pv 0) rfl) (pa_cons (pe_fld (pv 0) rfl) (pa_cons (pv 1) pa_nil)))) (pg_tup rfl (pgs_cons (pg_name (i := 2) sc_image_by.nd rfl (.inl rfl)) (pgs_cons (pg_name (i := 3) sc_image_by.nd rfl (.inl rfl)) (pgs_cons (pg_name (i := 4) sc_image_by.nd rfl (.inl rfl)) pgs_nil)))))
 (pss_one (ps_ret (pe_make T.M_Place G_Place_init (hr.mono (by decide)) (by rfl) T.g_C_Place T.b_Place_init .nil passL (pa_cons (pv 2) (pa_cons (pv 3) (pa_cons (pv 4) pa_nil))))))), run_body (ρ := [some (rn T (p, q, s1) (r, t, u)), some (pl T x y a), none, none, none]) hs hR hK hX rfl ?_⟩
  refine ws_seq (ws_asg (we_call (wa_cons (we_fe T (we_var rfl ⟨_, _, rfl, (wa_cons (we_fn T (we_var rfl ⟨_, _, rfl, (wa_cons (we_var rfl (wa_nil ⟨_, _, _, _, _, _, _, _, _, rfl, hp, hq, hs1, hr1, ht, hu1, hx, hy, ha, (wg_tup rfl (wgs_cons (wg_name (wgs_cons (wg_name (wgs_cons (wg_name (wgs_nil ?_))))))))⟩)))⟩)))⟩)))))
  refine (ws_ret (we_place T (wa_cons (we_var rfl (wa_cons (we_var rfl (wa_cons (we_var rfl (wa_nil ⟨_, _, _, rfl, ?_⟩)))))))))
  exact hk
def pr_Renaming_call (T : Tx K mg) : Pr := fun ds B k e => ∃ p q s r t u d, ds = [rn T (p, q, s) (r, t, u), d] ∧ ((∃ x y a : Int, d = pl T x y a ∧ Bd 20000 p ∧ Bd 20000 q ∧ Bd 20000 s ∧ Bd 20000 r ∧ Bd 20000 t ∧ Bd 20000 u ∧ Bd 20000 x ∧ Bd 20000 y ∧ Bd 20000 a ∧ k (plT T (imT (p, q, s) (r, t, u) (x, y, a))) B) ∨ (plainD d = true ∧ e T.C_BadPlace (some ((["value"] : List Str), [d])) B))
theorem okD_Renaming_call (T : Tx K mg) : FnOk P w K mg base (L2.CX P w) 9 T.a_Renaming_call T.d_Renaming_call P_Renaming_call (spD K (pr_Renaming_call T)) := by
  refine T.F_Renaming_call.okX sc_Renaming_call (spD_len fun ds B k e h => by obtain ⟨p, q, s1, r, t, u, d, rfl, hk⟩ := h; rfl) (fun cdv A outer s H vs Q E hr h => ?_)
  have G_check_place : FnOk P w K mg base (L2.CX P w) _ _ _ _ _ := okD_check_place T
  have G_image_by : FnOk P w K mg base (L2.CX P w) 8 _ _ _ _ := okD_image_by T
  obtain ⟨G, ds, B, k, e, hs, hR, ⟨p, q, s1, r, t, u, d, rfl, hk⟩, hK, hX⟩ := h
  refine ⟨_, (pss_cons (ps_expr (pe_call G_check_place (hr.mono (by decide)) (by rfl) T.g_check_place T.F_check_place.kp T.b_check_place .nil (passE (E := E)) (pa_cons (pv 1) pa_nil)))
 (pss_one (ps_ret (pe_call G_image_by (hr.mono (by decide)) (by rfl) T.g_image_by T.F_image_by.kp T.b_image_by .nil (passE (E := E)) (pa_cons (pv 0) (pa_cons (pv 1) pa_nil)))))), run_body (ρ := [some (rn T (p, q, s1) (r, t, u)), some d]) hs hR hK hX rfl ?_⟩
  rcases hk with ⟨x, y, a, rfl, hp, hq, hs1, hr1, ht, hu1, hx, hy, ha, hk⟩ | ⟨pd, he⟩
  · refine ws_seq (ws_drop (we_call (wa_cons (we_var rfl (wa_nil ⟨_, rfl, .inl ⟨_, _, _, rfl, ?_⟩⟩)))))
    refine (ws_ret (we_call (wa_cons (we_var rfl (wa_cons (we_var rfl (wa_nil ⟨_, _, _, _, _, _, _, _, _, rfl, hp, hq, hs1, hr1, ht, hu1, hx, hy, ha, ?_⟩)))))))
    exact hk
  · exact ws_seq (ws_drop (we_callE (wa_cons (we_var rfl (wa_nil ⟨_, rfl, .inr ⟨pd, he⟩⟩)))))
def pr_Renaming_factor (T : Tx K mg) : Pr := fun ds B k e => ∃ p q s r t u : Int, ds = [rn T (p, q, s) (r, t, u)] ∧ Bd 20000 p ∧ Bd 20000 q ∧ Bd 20000 r ∧ Bd 20000 t ∧ k (.int (p * t - r * q)) B
theorem okD_Renaming_factor (T : Tx K mg) : FnOk P w K mg base (L2.CX P w) 7 T.a_Renaming_factor T.d_Renaming_factor P_Renaming_factor (spD K (pr_Renaming_factor T)) := by
  refine T.F_Renaming_factor.okX sc_Renaming_factor (spD_len fun ds B k e h => by obtain ⟨p, q, s1, r, t, u, rfl, hp, hq, hr1, ht, hk⟩ := h; rfl) (fun cdv A outer s H vs Q E hr h => ?_)
  have G_Place_twist : FnOk P w K mg base (L2.CX P w) 6 _ _ _ _ := okD_Place_twist T
  obtain ⟨G, ds, B, k, e, hs, hR, ⟨p, q, s1, r, t, u, rfl, hp, hq, hr1, ht, hk⟩, hK, hX⟩ := h
  refine ⟨_, (pss_one (ps_ret (pe_meth (pe_fld (pv 0) rfl) T.cl_Place T.M_Place_twist G_Place_twist (hr.mono (by decide)) T.b_Place_twist .nil passL (pa_cons (pe_fld (pv 0) rfl) pa_nil)))), run_body (ρ := [some (rn T (p, q, s1) (r, t, u))]) hs hR hK hX rfl ?_⟩
  refine (ws_ret (we_meth (we_fe T (we_var rfl ⟨_, _, rfl, ⟨_, _, rfl, by decide +kernel, (wa_cons (we_fn T (we_var rfl ⟨_, _, rfl, (wa_nil ⟨_, _, _, _, _, _, rfl, (by apply Bd.mono; (repeat (first | assumption | exact Bd.lit 64 (by decide +kernel) | exact Bd.lit 2000 (by decide +kernel) | apply Bd.neg | apply Bd.fdiv | apply Bd.mul | apply Bd.add2 | apply Bd.sub2)); decide), (by apply Bd.mono; (repeat (first | assumption | exact Bd.lit 64 (by decide +kernel) | exact Bd.lit 2000 (by decide +kernel) | apply Bd.neg | apply Bd.fdiv | apply Bd.mul | apply Bd.add2 | apply Bd.sub2)); decide), (by apply Bd.mono; (repeat (first | assumption | exact Bd.lit 64 (by decide +kernel) | exact Bd.lit 2000 (by decide +kernel) | apply Bd.neg | apply Bd.fdiv | apply Bd.mul | apply Bd.add2 | apply Bd.sub2)); decide), (by apply Bd.mono; (repeat (first | assumption | exact Bd.lit 64 (by decide +kernel) | exact Bd.lit 2000 (by decide +kernel) | apply Bd.neg | apply Bd.fdiv | apply Bd.mul | apply Bd.add2 | apply Bd.sub2)); decide), ?_⟩)⟩)))⟩⟩))))
  exact hk
def pr_same_names (T : Tx K mg) : Pr := fun ds B k e => ds = [] ∧ k (rn T (1, 0, 0) (0, 1, 0)) B
theorem okD_same_names (T : Tx K mg) : FnOk P w K mg base (L2.CX P w) 7 T.a_same_names T.d_same_names P_same_names (spD K (pr_same_names T)) := by
  refine T.F_same_names.okX sc_same_names (spD_len fun ds B k e h => by obtain ⟨rfl, hk⟩ := h; rfl) (fun cdv A outer s H vs Q E hr h => ?_)
  have G_Place_init : FnOk P w K mg base (L2.CX P w) _ _ _ _ _ := okD_Place_init T
  have G_Renaming_init : FnOk P w K mg base (L2.CX P w) 5 _ _ _ _ := okD_Renaming_init T
  obtain ⟨G, ds, B, k, e, hs, hR, ⟨rfl, hk⟩, hK, hX⟩ := h
  refine ⟨_, (pss_one (ps_ret (pe_make T.M_Renaming G_Renaming_init (hr.mono (by decide)) (by rfl) T.g_C_Renaming T.b_Renaming_init .nil passL (pa_cons (pe_make T.M_Place G_Place_init (hr.mono (by decide)) (by rfl) T.g_C_Place T.b_Place_init .nil passL (pa_cons pe_int (pa_cons pe_int (pa_cons pe_int pa_nil)))) (pa_cons (pe_make T.M_Place G_Place_init (hr.mono (by decide)) (by rfl) T.g_C_Place T.b_Place_init .nil passL (pa_cons pe_int (pa_cons pe_int (pa_cons pe_int pa_nil)))) pa_nil))))), run_body (ρ := []) hs hR hK hX rfl ?_⟩
  refine (ws_ret (we_make (wa_cons (we_place T (wa_cons (we_int (wa_cons (we_int (wa_cons (we_int (wa_nil ⟨_, _, _, rfl, (wa_cons (we_place T (wa_cons (we_int (wa_cons (we_int (wa_cons (we_int (wa_nil ⟨_, _, _, rfl, (wa_nil ⟨_, _, rfl, .inl ⟨_, _, _, _, _, _, rfl, rfl, ?_⟩⟩)⟩)))))))))⟩)))))))))))
  exact hk
end
end AW

set_option linter.all false
set_option maxRecDepth 100000
set_option maxHeartbeats 8000000
namespace AW
open PySem PySem.Spec PyProof.Rows L2
variable [Tbs]
section
variable {P : Program} {w : World} {K : PySem.W.Frag} {mg : Str → Option Value} {base : Heap}
abbrev T6 := T3 × T3
abbrev rn6 (T : Tx K mg) (A : T6) : D := rn T A.1 A.2
/-- one after the other -/
def cm6 (A C : T6) : T6 := (imT A.1 A.2 C.1, imT A.1 A.2 C.2)
def id6 : T6 := ((1, 0, 0), (0, 1, 0))
def pw6 (A : T6) : Nat → T6
  | 0 => id6
  | n + 1 => cm6 A (pw6 A n)
def det6 (A : T6) : Int := A.1.1 * A.2.2.1 - A.2.1 * A.1.2.1
structure Sz (m : Nat) (A : T6) : Prop where
  p : Bd m A.1.1
  q : Bd m A.1.2.1
  s : Bd m A.1.2.2
  r : Bd m A.2.1
  t : Bd m A.2.2.1
  u : Bd m A.2.2.2
variable {E E' : XK} {e : EW} {ρ : List (Option D)} {B : Int} {k : KD} {κ : KS} {ta tb : TE} {t : TA} {pr : Pr}
theorem rn_ty {T : Tx K mg} {G : Hp} {B : Int} {A : T6} {v : V} (h : Rep K G B (rn6 T A) v) : ∃ p dx fs, v = .ref p ∧ G p = some (.ins T.C_Renaming dx fs) := by
  obtain ⟨p, dx, us, rfl, hp, hl, hr⟩ := h
  exact ⟨p, dx, _, rfl, hp⟩
theorem ro_ownR (T : Tx K mg) {A C : T6} (h : pr [rn6 T A, rn6 T C] B k noE) : Ro K E e (rOpO K T.C_Renaming .Mult (spD K pr) E') (rn6 T A) (rn6 T C) B k := fun u v H G Q s r1 r2 _ q => by
  obtain ⟨p, dx, fs, rfl, hp⟩ := rn_ty r1
  obtain ⟨p', dx', fs', rfl, hp'⟩ := rn_ty r2
  exact ⟨p, dx, fs, _, rfl, s _ _ hp, .base (.ins (s _ _ hp') T.cl_Renaming T.ca_Renaming T.cn T.ct T.cm_Renaming), .same, G, [rn6 T A, rn6 T C], B, k, noE, s, ⟨_, _, rfl, r1, _, _, rfl, r2, rfl⟩, h, q, XOk.no⟩
theorem we_invR (T : Tx K mg) (h : We K E e ta ρ B fun d B1 => ∃ A : T6, d = rn6 T A ∧ pr [rn6 T A] B1 k e) : We K E e (tUn (rUnO T.C_Renaming (spD K pr) E) ta) ρ B k :=
  we_un (h.imp fun d B1 ⟨A, ed, hk⟩ u H G Q s r xo q => by
    subst ed
    obtain ⟨p, dx, fs, rfl, hp⟩ := rn_ty r
    exact ⟨p, dx, fs, rfl, s _ _ hp, G, [rn6 T A], B1, k, e, s, ⟨_, _, rfl, r, rfl⟩, hk, q, xo⟩)
/-- == with a renaming -/
def oth (T : Tx K mg) (d : D) : Prop := (∃ ds, d = .tup ds) ∨ ∃ x y a, d = pl T x y a
theorem oth_ty {T : Tx K mg} {G H : Hp} (s : Sub G H) {d : D} {v : V} (r : Rep K G B d v) (h : oth T d) : ∃ ty, TyX K H v ty ∧ PySem.W.kitOne K ty (.ref T.C_Renaming) = some false ∧ PySem.W.notFirst K T.C_Renaming ty = true := by
  rcases h with ⟨ds, rfl⟩ | ⟨x, y, a, rfl⟩
  · obtain ⟨a, vs, rfl, ha, _⟩ := r
    exact ⟨_, tyx_tup ((Le.of_sub (B := B) (B' := B) s (Int.le_refl _)).seqT ha), T.is_tuple_Renaming, by unfold PySem.W.notFirst; rw [T.sb_tuple_Renaming]; simp⟩
  · obtain ⟨p, rfl, hp⟩ := r.pl
    exact ⟨_, (hp.sub s).ty, T.ip_Place_Renaming, by unfold PySem.W.notFirst; rw [T.sp_Place_Renaming]; simp⟩
theorem ro_ownEqR (T : Tx K mg) {g : Bool → Bool} {A : T6} {d : D} (hd : oth T d ∨ ∃ C : T6, d = rn6 T C) (h : pr [rn6 T A, d] B (fun d B' => ∃ b, d = .bl b ∧ k (.bl (g b)) B') noE) : Ro K E e (rEqO K T.C_Renaming (spD K pr) E' g) (rn6 T A) d B k := fun u v H G Q s r1 r2 _ q => by
  obtain ⟨p, dx, fs, rfl, hp⟩ := rn_ty r1
  have ht : ∃ ty, TyX K H v ty ∧ PySem.W.notFirst K T.C_Renaming ty = true := by
    rcases hd with hd | ⟨C, rfl⟩
    · obtain ⟨ty, y1, _, y3⟩ := oth_ty s r2 hd
      exact ⟨ty, y1, y3⟩
    · obtain ⟨p', dx', fs', rfl, hp'⟩ := rn_ty r2
      exact ⟨_, .base (.ins (s _ _ hp') T.cl_Renaming T.ca_Renaming T.cn T.ct T.cm_Renaming), by unfold PySem.W.notFirst; simp⟩
  obtain ⟨ty, y1, y3⟩ := ht
  refine ⟨p, dx, fs, _, rfl, s _ _ hp, y1, y3, G, [rn6 T A, d], B, _, noE, s, ⟨_, _, rfl, r1, _, _, rfl, r2, rfl⟩, h, fun d v B' G' H' hz ee rr => ?_, XOk.no⟩
  obtain ⟨b, rfl, hz⟩ := hz
  exact ⟨b, rr, q _ _ _ _ _ hz ee rfl⟩
theorem we_isi_RenamingN (T : Tx K mg) (h : Wa K E e t ρ B fun ds B1 => ∃ d, ds = [d, .val (.ref T.C_Renaming)] ∧ oth T d ∧ k (.bl false) B1) : We K E e (tCB (rIsi K) t) ρ B k :=
  we_cb fun σ H G Q s en x q => h σ H G Q s en x fun ds vs B1 G1 H1 ⟨d, ed, ho, hk⟩ e1 r1 => q ds vs B1 G1 H1 (fun ws H2 G2 Q2 s2 r2 q2 => by
    subst ed
    obtain ⟨v, _, rfl, rv, c, _, rfl, rc, rfl⟩ := r2
    rw [show c = _ from rc]
    obtain ⟨ty, y1, y2, _⟩ := oth_ty s2 rv ho
    exact ⟨_, _, _, _, false, rfl, .own _, y1, y2, q2 _ _ _ _ _ hk (Ext.refl s2) rfl⟩) e1 r1
theorem t3_dec {p q : T3} : decide (p.1 = q.1 ∧ p.2.1 = q.2.1 ∧ p.2.2 = q.2.2) = decide (p = q) := by
  obtain ⟨a, b, c⟩ := p
  obtain ⟨x, y, z⟩ := q
  simp
def pr_Renaming_eq (T : Tx K mg) : Pr := fun ds B k e => ∃ A d, ds = [rn6 T A, d] ∧ ((∃ C : T6, d = rn6 T C ∧ k (.bl (decide (A = C))) B) ∨ (oth T d ∧ k (.bl false) B))
theorem okD_Renaming_eq (T : Tx K mg) : FnOk P w K mg base (L2.CX P w) 5 T.a_Renaming_eq T.d_Renaming_eq P_Renaming_eq (spD K (pr_Renaming_eq T)) := by
  refine T.F_Renaming_eq.okX sc_Renaming_eq (spD_len fun ds B k e h => by obtain ⟨A, d, rfl, hk⟩ := h; rfl) (fun cdv A outer s H vs Q E hr h => ?_)
  have G_Place_eq : FnOk P w K mg base (L2.CX P w) _ _ _ _ _ := okD_Place_eq T
  obtain ⟨G, ds, B, k, e, hs, hR, ⟨A, d, rfl, hk⟩, hK, hX⟩ := h
  refine ⟨_, (pss_one (ps_ret (pe_and (pe_callB call_isi (by rfl) T.n_isinstance (by decide +kernel) (pa_cons (pv 1) (pa_cons (pe_glob (v := .ref T.C_Renaming) (by rfl) T.g_C_Renaming rfl) pa_nil))) (pe_and (pe_cmpR (op_eqO T.E_Place G_Place_eq (hr.mono (by decide)) T.b_Place_eq passL) (pe_fld (pv 0) rfl) (pe_fld (pv 1) rfl) (nomark _)) (pe_one (pe_cmpR (op_eqO T.E_Place G_Place_eq (hr.mono (by decide)) T.b_Place_eq passL) (pe_fld (pv 0) rfl) (pe_fld (pv 1) rfl) (nomark _))))))), run_body (ρ := [some (rn6 T A), some d]) hs hR hK hX rfl ?_⟩
  rcases hk with ⟨C, rfl, hk⟩ | ⟨ho, hk⟩
  · obtain ⟨⟨p, q, s1⟩, ⟨r, t, u⟩⟩ := A
    obtain ⟨⟨p', q', s'⟩, ⟨r', t', u'⟩⟩ := C
    refine ws_ret (we_and (we_isi_Renaming T (wa_cons (we_var rfl (wa_cons (we_val (wa_nil ⟨_, _, rfl, _, rfl, fun _ => ?_, fun h => nomatch h⟩)))))))
    refine we_and (we_op (we_fe T (we_var rfl ⟨_, _, rfl, we_fe T (we_var rfl ⟨_, _, rfl, ro_ownEq T ⟨_, _, _, _, rfl, .inl ⟨_, _, _, rfl, _, rfl, _, rfl, fun h1 => ?_, fun h1 => ?_⟩⟩⟩)⟩)))
    · refine we_op (we_fn T (we_var rfl ⟨_, _, rfl, we_fn T (we_var rfl ⟨_, _, rfl, ro_ownEq T ⟨_, _, _, _, rfl, .inl ⟨_, _, _, rfl, _, rfl, ?_⟩⟩⟩)⟩))
      have h2 := of_decide_eq_true h1
      obtain ⟨rfl, rfl, rfl⟩ := h2
      have e1 : decide (((p, q, s1), (r, t, u)) = ((p, q, s1), (r', t', u'))) = decide (r = r' ∧ t = t' ∧ u = u') := by simp
      rw [e1] at hk
      exact hk
    · have h2 := of_decide_eq_false h1
      have e1 : decide (((p, q, s1), (r, t, u)) = ((p', q', s'), (r', t', u'))) = false := by
        apply decide_eq_false
        intro z
        simp only [Prod.mk.injEq] at z
        exact h2 z.1
      rw [e1] at hk
      exact hk
  · exact ws_ret (we_and (we_isi_RenamingN T (wa_cons (we_var rfl (wa_cons (we_val (wa_nil ⟨_, rfl, ho, _, rfl, (fun h => nomatch h), fun _ => hk⟩)))))))
end
end AW

set_option linter.all false
set_option maxRecDepth 100000
set_option maxHeartbeats 8000000
namespace AW
open PySem PySem.Spec PyProof.Rows L2
variable [Tbs]
section
variable {P : Program} {w : World} {K : PySem.W.Frag} {mg : Str → Option Value} {base : Heap}
theorem ok_NotOnto_init (T : Tx K mg) : FnOk P w K mg base (L2.CX P w) 1 T.a_NotOnto_init T.d_NotOnto_init P_NotOnto_init (sp_einit T.C_NotOnto "number") := by
  refine T.F_NotOnto_init.okX sc_NotOnto_init (fun vs H Q E h => ?_) (fun cdv A outer s H vs Q E hr h => ?_)
  · obtain ⟨a, v, rfl, _⟩ := h
    rfl
  · obtain ⟨a, v, rfl, ha, k⟩ := h
    refine ⟨_, pss_one (ps_ost (pv 0) (pv 1)), ?_⟩
    exact ⟨_, rfl, _, rfl, a, T.C_NotOnto, rfl, T.X_NotOnto, T.na_NotOnto_number, .inl ⟨ha, fun dx hd ne => k dx hd ne⟩⟩
def pr_source_over (T : Tx K mg) : Pr := fun ds B k e => ∃ (A : T6) (x y : Int), ds = [rn6 T A, .int x, .int y] ∧ Sz 4000 A ∧ Bd 4000 x ∧ Bd 4000 y ∧ k (pl T x y (-(det6 A) * (imT A.1 A.2 (x, y, 0)).2.2)) B
theorem im_area_bd {m : Nat} {A : T6} {x y a : Int} (h : Sz 4000 A) (hx : Bd 4000 x) (hy : Bd 4000 y) (ha : Bd 4000 a) : Bd 100000 (imT A.1 A.2 (x, y, a)).2.2 := by
  obtain ⟨hp, hq, hs1, hr1, ht, hu1⟩ := h
  show Bd 100000 (y * A.2.2.2 + A.2.1 * A.2.2.1 * (y * (y - 1)).fdiv 2 + (x * A.1.2.2 + A.1.1 * A.1.2.1 * (x * (x - 1)).fdiv 2) + y * A.2.1 * x * A.1.2.1 + (A.1.1 * A.2.2.1 - A.2.1 * A.1.2.1) * a)
  exact (by apply Bd.mono; (repeat (first | assumption | exact Bd.lit 64 (by decide +kernel) | exact Bd.lit 2000 (by decide +kernel) | apply Bd.neg | apply Bd.fdiv | apply Bd.mul | apply Bd.add2 | apply Bd.sub2)); decide)
theorem okD_source_over (T : Tx K mg) : FnOk P w K mg base (L2.CX P w) 9 T.a_source_over T.d_source_over P_source_over (spD K (pr_source_over T)) := by
  refine T.F_source_over.okX sc_source_over (spD_len fun ds B k e h => by obtain ⟨⟨⟨p, q, s1⟩, ⟨r, t, u⟩⟩, x, y, rfl, ⟨hp, hq, hs1, hr1, ht, hu1⟩, hx, hy, hk⟩ := h; rfl) (fun cdv A outer s H vs Q E hr h => ?_)
  have G_Place_init : FnOk P w K mg base (L2.CX P w) _ _ _ _ _ := okD_Place_init T
  have G_Renaming_factor : FnOk P w K mg base (L2.CX P w) 7 _ _ _ _ := okD_Renaming_factor T
  have G_image_by : FnOk P w K mg base (L2.CX P w) 8 _ _ _ _ := okD_image_by T
  obtain ⟨G, ds, B, k, e, hs, hR, ⟨⟨⟨p, q, s1⟩, ⟨r, t, u⟩⟩, x, y, rfl, ⟨hp, hq, hs1, hr1, ht, hu1⟩, hx, hy, hk⟩, hK, hX⟩ := h
  refine ⟨_, (pss_one (ps_ret (pe_make T.M_Place G_Place_init (hr.mono (by decide)) (by rfl) T.g_C_Place T.b_Place_init .nil passL (pa_cons (pv 1) (pa_cons (pv 2) (pa_cons (pe_op op_mulW (pe_un un_neg (pe_meth0 (pv 0) T.cl_Renaming T.M_Renaming_factor G_Renaming_factor (hr.mono (by decide)) T.b_Renaming_factor .nil passL)) (pe_fld (pe_call G_image_by (hr.mono (by decide)) (by rfl) T.g_image_by T.F_image_by.kp T.b_image_by .nil passL (pa_cons (pv 0) (pa_cons (pe_make T.M_Place G_Place_init (hr.mono (by decide)) (by rfl) T.g_C_Place T.b_Place_init .nil passL (pa_cons (pv 1) (pa_cons (pv 2) (pa_cons pe_int pa_nil)))) pa_nil))) rfl)) pa_nil)))))), run_body (ρ := [some (rn6 T ((p, q, s1), (r, t, u))), some (.int x), some (.int y)]) hs hR hK hX rfl ?_⟩
  have hp : Bd 4000 p := hp
  have hq : Bd 4000 q := hq
  have hs1 : Bd 4000 s1 := hs1
  have hr1 : Bd 4000 r := hr1
  have ht : Bd 4000 t := ht
  have hu1 : Bd 4000 u := hu1
  have ia : Bd 100000 (imT (p, q, s1) (r, t, u) (x, y, 0)).2.2 := im_area_bd (m := 0) (A := ((p, q, s1), (r, t, u))) ⟨hp, hq, hs1, hr1, ht, hu1⟩ hx hy bd0
  refine (ws_ret (we_place T (wa_cons (we_var rfl (wa_cons (we_var rfl (wa_cons (we_op (we_neg (we_meth (we_var rfl ⟨_, _, rfl, by decide +kernel, (wa_nil ⟨_, _, _, _, _, _, rfl, (by apply Bd.mono; (repeat (first | assumption | exact Bd.lit 64 (by decide +kernel) | exact Bd.lit 2000 (by decide +kernel) | apply Bd.neg | apply Bd.fdiv | apply Bd.mul | apply Bd.add2 | apply Bd.sub2)); decide), (by apply Bd.mono; (repeat (first | assumption | exact Bd.lit 64 (by decide +kernel) | exact Bd.lit 2000 (by decide +kernel) | apply Bd.neg | apply Bd.fdiv | apply Bd.mul | apply Bd.add2 | apply Bd.sub2)); decide), (by apply Bd.mono; (repeat (first | assumption | exact Bd.lit 64 (by decide +kernel) | exact Bd.lit 2000 (by decide +kernel) | apply Bd.neg | apply Bd.fdiv | apply Bd.mul | apply Bd.add2 | apply Bd.sub2)); decide), (by apply Bd.mono; (repeat (first | assumption | exact Bd.lit 64 (by decide +kernel) | exact Bd.lit 2000 (by decide +kernel) | apply Bd.neg | apply Bd.fdiv | apply Bd.mul | apply Bd.add2 | apply Bd.sub2)); decide), ⟨_, rfl, (we_fa T (we_call (wa_cons (we_var rfl (wa_cons (we_place T (wa_cons (we_var rfl (wa_cons (we_var rfl (wa_cons (we_int (wa_nil ⟨_, _, _, rfl, (wa_nil ⟨_, _, _, _, _, _, _, _, _, rfl, (by apply Bd.mono; (repeat (first | assumption | exact Bd.lit 64 (by decide +kernel) | exact Bd.lit 2000 (by decide +kernel) | apply Bd.neg | apply Bd.fdiv | apply Bd.mul | apply Bd.add2 | apply Bd.sub2)); decide), (by apply Bd.mono; (repeat (first | assumption | exact Bd.lit 64 (by decide +kernel) | exact Bd.lit 2000 (by decide +kernel) | apply Bd.neg | apply Bd.fdiv | apply Bd.mul | apply Bd.add2 | apply Bd.sub2)); decide), (by apply Bd.mono; (repeat (first | assumption | exact Bd.lit 64 (by decide +kernel) | exact Bd.lit 2000 (by decide +kernel) | apply Bd.neg | apply Bd.fdiv | apply Bd.mul | apply Bd.add2 | apply Bd.sub2)); decide), (by apply Bd.mono; (repeat (first | assumption | exact Bd.lit 64 (by decide +kernel) | exact Bd.lit 2000 (by decide +kernel) | apply Bd.neg | apply Bd.fdiv | apply Bd.mul | apply Bd.add2 | apply Bd.sub2)); decide), (by apply Bd.mono; (repeat (first | assumption | exact Bd.lit 64 (by decide +kernel) | exact Bd.lit 2000 (by decide +kernel) | apply Bd.neg | apply Bd.fdiv | apply Bd.mul | apply Bd.add2 | apply Bd.sub2)); decide), (by apply Bd.mono; (repeat (first | assumption | exact Bd.lit 64 (by decide +kernel) | exact Bd.lit 2000 (by decide +kernel) | apply Bd.neg | apply Bd.fdiv | apply Bd.mul | apply Bd.add2 | apply Bd.sub2)); decide), (by apply Bd.mono; (repeat (first | assumption | exact Bd.lit 64 (by decide +kernel) | exact Bd.lit 2000 (by decide +kernel) | apply Bd.neg | apply Bd.fdiv | apply Bd.mul | apply Bd.add2 | apply Bd.sub2)); decide), (by apply Bd.mono; (repeat (first | assumption | exact Bd.lit 64 (by decide +kernel) | exact Bd.lit 2000 (by decide +kernel) | apply Bd.neg | apply Bd.fdiv | apply Bd.mul | apply Bd.add2 | apply Bd.sub2)); decide), (by apply Bd.mono; (repeat (first | assumption | exact Bd.lit 64 (by decide +kernel) | exact Bd.lit 2000 (by decide +kernel) | apply Bd.neg | apply Bd.fdiv | apply Bd.mul | apply Bd.add2 | apply Bd.sub2)); decide), ⟨_, _, _, rfl, (ro_i (cmc (by apply Bd.mono; (repeat (first | assumption | exact Bd.lit 64 (by decide +kernel) | exact Bd.lit 2000 (by decide +kernel) | apply Bd.neg | apply Bd.fdiv | apply Bd.mul | apply Bd.add2 | apply Bd.sub2)); decide) (by apply Bd.mono; (repeat (first | assumption | exact Bd.lit 64 (by decide +kernel) | exact Bd.lit 2000 (by decide +kernel) | apply Bd.neg | apply Bd.fdiv | apply Bd.mul | apply Bd.add2 | apply Bd.sub2)); decide)) (wa_nil ⟨_, _, _, rfl, ?_⟩))⟩⟩)⟩)))))))))))))⟩⟩)⟩)))))))))))
  exact hk
def pr_check_onto (T : Tx K mg) : Pr := fun ds B k e => ∃ A : T6, ds = [rn6 T A] ∧ Sz 4000 A ∧ ((det6 A = 1 ∨ det6 A = -1) → k .non B) ∧ (¬ (det6 A = 1 ∨ det6 A = -1) → e T.C_NotOnto (some ((["number"] : List Str), [.int (det6 A)])) B)
theorem okD_check_onto (T : Tx K mg) : FnOk P w K mg base (L2.CX P w) 8 T.a_check_onto T.d_check_onto P_check_onto (spD K (pr_check_onto T)) := by
  refine T.F_check_onto.okX sc_check_onto (spD_len fun ds B k e h => by obtain ⟨⟨⟨p, q, s1⟩, ⟨r, t, u⟩⟩, rfl, ⟨hp, hq, hs1, hr1, ht, hu1⟩, hk, he⟩ := h; rfl) (fun cdv A outer s H vs Q E hr h => ?_)
  have G_NotOnto_init : FnOk P w K mg base (L2.CX P w) 1 _ _ _ _ := ok_NotOnto_init T
  have G_Renaming_factor : FnOk P w K mg base (L2.CX P w) 7 _ _ _ _ := okD_Renaming_factor T
  obtain ⟨G, ds, B, k, e, hs, hR, ⟨⟨⟨p, q, s1⟩, ⟨r, t, u⟩⟩, rfl, ⟨hp, hq, hs1, hr1, ht, hu1⟩, hk, he⟩, hK, hX⟩ := h
  refine ⟨_, (pss_one (ps_if (pt_cmpR op_ne (pe_callB call_abs (by rfl) T.n_abs (by decide +kernel) (pa_cons (pe_meth0 (pv 0) T.cl_Renaming T.M_Renaming_factor G_Renaming_factor (hr.mono (by decide)) T.b_Renaming_factor .nil (passE (E := E))) pa_nil)) pe_int (nomark _))
 (pss_one (ps_raise rfl (takes_of rfl rfl rfl rfl) (pmk_oex T.X_NotOnto T.ei_NotOnto T.et_NotOnto G_NotOnto_init (hr.mono (by decide)) T.b_NotOnto_init .nil passL rfl T.g_C_NotOnto (by exact (pa_cons (pe_meth0 (pv 0) T.cl_Renaming T.M_Renaming_factor G_Renaming_factor (hr.mono (by decide)) T.b_Renaming_factor .nil (passE (E := E))) pa_nil)))))
 pss_nil)), run_body (ρ := [some (rn6 T ((p, q, s1), (r, t, u)))]) hs hR hK hX rfl ?_⟩
  have hp : Bd 4000 p := hp
  have hq : Bd 4000 q := hq
  have hr1 : Bd 4000 r := hr1
  have ht : Bd 4000 t := ht
  refine ws_if (wt_test (we_op (we_abs (wa_cons (we_meth0 (we_var rfl ⟨_, _, rfl, by decide +kernel, _, _, _, _, _, _, rfl, (by apply Bd.mono; (repeat (first | assumption | exact Bd.lit 64 (by decide +kernel) | exact Bd.lit 2000 (by decide +kernel) | apply Bd.neg | apply Bd.fdiv | apply Bd.mul | apply Bd.add2 | apply Bd.sub2)); decide), (by apply Bd.mono; (repeat (first | assumption | exact Bd.lit 64 (by decide +kernel) | exact Bd.lit 2000 (by decide +kernel) | apply Bd.neg | apply Bd.fdiv | apply Bd.mul | apply Bd.add2 | apply Bd.sub2)); decide), (by apply Bd.mono; (repeat (first | assumption | exact Bd.lit 64 (by decide +kernel) | exact Bd.lit 2000 (by decide +kernel) | apply Bd.neg | apply Bd.fdiv | apply Bd.mul | apply Bd.add2 | apply Bd.sub2)); decide), (by apply Bd.mono; (repeat (first | assumption | exact Bd.lit 64 (by decide +kernel) | exact Bd.lit 2000 (by decide +kernel) | apply Bd.neg | apply Bd.fdiv | apply Bd.mul | apply Bd.add2 | apply Bd.sub2)); decide), wa_nil ⟨_, rfl, we_int (ro_neI ⟨_, rfl, fun h1 => ?_, fun h1 => ?_⟩)⟩⟩))))))
  · refine ws_raise1 (wa_cons (we_meth0 (we_var rfl ⟨_, _, rfl, by decide +kernel, _, _, _, _, _, _, rfl, (by apply Bd.mono; (repeat (first | assumption | exact Bd.lit 64 (by decide +kernel) | exact Bd.lit 2000 (by decide +kernel) | apply Bd.neg | apply Bd.fdiv | apply Bd.mul | apply Bd.add2 | apply Bd.sub2)); decide), (by apply Bd.mono; (repeat (first | assumption | exact Bd.lit 64 (by decide +kernel) | exact Bd.lit 2000 (by decide +kernel) | apply Bd.neg | apply Bd.fdiv | apply Bd.mul | apply Bd.add2 | apply Bd.sub2)); decide), (by apply Bd.mono; (repeat (first | assumption | exact Bd.lit 64 (by decide +kernel) | exact Bd.lit 2000 (by decide +kernel) | apply Bd.neg | apply Bd.fdiv | apply Bd.mul | apply Bd.add2 | apply Bd.sub2)); decide), (by apply Bd.mono; (repeat (first | assumption | exact Bd.lit 64 (by decide +kernel) | exact Bd.lit 2000 (by decide +kernel) | apply Bd.neg | apply Bd.fdiv | apply Bd.mul | apply Bd.add2 | apply Bd.sub2)); decide), wa_nil ⟨_, rfl, he fun z => ?_⟩⟩)))
    have h2 := ne_of_dec h1
    rcases z with z | z
    · have z : p * t - r * q = 1 := z
      rw [z] at h2
      exact h2 rfl
    · have z : p * t - r * q = -1 := z
      rw [z] at h2
      exact h2 rfl
  · refine ws_next (hk ?_)
    have h2 := eq_of_dec h1
    show p * t - r * q = 1 ∨ p * t - r * q = -1
    generalize p * t - r * q = d at h2 ⊢
    split at h2 <;> omega
def inv6 (A : T6) : T6 :=
  let d := det6 A
  ((A.2.2.1 * d, -A.1.2.1 * d, -d * (imT A.1 A.2 (A.2.2.1 * d, -A.1.2.1 * d, 0)).2.2), (-A.2.1 * d, A.1.1 * d, -d * (imT A.1 A.2 (-A.2.1 * d, A.1.1 * d, 0)).2.2))
def pr_Renaming_invert (T : Tx K mg) : Pr := fun ds B k e => ∃ A : T6, ds = [rn6 T A] ∧ Sz 3900 A ∧ ((det6 A = 1 ∨ det6 A = -1) → k (rn6 T (inv6 A)) B) ∧ (¬ (det6 A = 1 ∨ det6 A = -1) → e T.C_NotOnto (some ((["number"] : List Str), [.int (det6 A)])) B)
theorem okD_Renaming_invert (T : Tx K mg) : FnOk P w K mg base (L2.CX P w) 10 T.a_Renaming_invert T.d_Renaming_invert P_Renaming_invert (spD K (pr_Renaming_invert T)) := by
  refine T.F_Renaming_invert.okX sc_Renaming_invert (spD_len fun ds B k e h => by obtain ⟨⟨⟨p, q, s1⟩, ⟨r, t, u⟩⟩, rfl, ⟨hp, hq, hs1, hr1, ht, hu1⟩, hk, he⟩ := h; rfl) (fun cdv A outer s H vs Q E hr h => ?_)
  have G_Renaming_factor : FnOk P w K mg base (L2.CX P w) 7 _ _ _ _ := okD_Renaming_factor T
  have G_Renaming_init : FnOk P w K mg base (L2.CX P w) 5 _ _ _ _ := okD_Renaming_init T
  have G_check_onto : FnOk P w K mg base (L2.CX P w) 8 _ _ _ _ := okD_check_onto T
  have G_source_over : FnOk P w K mg base (L2.CX P w) 9 _ _ _ _ := okD_source_over T
  obtain ⟨G, ds, B, k, e, hs, hR, ⟨⟨⟨p, q, s1⟩, ⟨r, t, u⟩⟩, rfl, ⟨hp, hq, hs1, hr1, ht, hu1⟩, hk, he⟩, hK, hX⟩ := h
  refine ⟨_, (pss_cons (ps_expr (pe_call G_check_onto (hr.mono (by decide)) (by rfl) T.g_check_onto T.F_check_onto.kp T.b_check_onto .nil (passE (E := E)) (pa_cons (pv 0) pa_nil)))
 (pss_cons (ps_set (i := 1) sc_Renaming_invert.nd rfl (.inl rfl) (pe_meth0 (pv 0) T.cl_Renaming T.M_Renaming_factor G_Renaming_factor (hr.mono (by decide)) T.b_Renaming_factor .nil (passE (E := E))))
 (pss_cons (ps_set (i := 2) sc_Renaming_invert.nd rfl (.inl rfl) (pe_call G_source_over (hr.mono (by decide)) (by rfl) T.g_source_over T.F_source_over.kp T.b_source_over .nil (passE (E := E)) (pa_cons (pv 0) (pa_cons (pe_op op_mulW (pe_fld (pe_fld (pv 0) rfl) rfl) (pv 1)) (pa_cons (pe_op op_mulW (pe_un un_neg (pe_fld (pe_fld (pv 0) rfl) rfl)) (pv 1)) pa_nil)))))
 (pss_cons (ps_set (i := 3) sc_Renaming_invert.nd rfl (.inl rfl) (pe_call G_source_over (hr.mono (by decide)) (by rfl) T.g_source_over T.F_source_over.kp T.b_source_over .nil (passE (E := E)) (pa_cons (pv 0) (pa_cons (pe_op op_mulW (pe_un un_neg (pe_fld (pe_fld (pv 0) rfl) rfl)) (pv 1)) (pa_cons (pe_op op_mulW (pe_fld (pe_fld (pv 0) rfl) rfl) (pv 1)) pa_nil)))))
 (pss_one (ps_ret (pe_make T.M_Renaming G_Renaming_init (hr.mono (by decide)) (by rfl) T.g_C_Renaming T.b_Renaming_init .nil (passE (E := E)) (pa_cons (pv 2) (pa_cons (pv 3) pa_nil))))))))), run_body (ρ := [some (rn6 T ((p, q, s1), (r, t, u))), none, none, none]) hs hR hK hX rfl ?_⟩
  have hp : Bd 3900 p := hp
  have hq : Bd 3900 q := hq
  have hs1 : Bd 3900 s1 := hs1
  have hr1 : Bd 3900 r := hr1
  have ht : Bd 3900 t := ht
  have hu1 : Bd 3900 u := hu1
  have sz : Sz 4000 ((p, q, s1), (r, t, u)) := ⟨(by apply Bd.mono; (repeat (first | assumption | exact Bd.lit 64 (by decide +kernel) | exact Bd.lit 2000 (by decide +kernel) | apply Bd.neg | apply Bd.fdiv | apply Bd.mul | apply Bd.add2 | apply Bd.sub2)); decide), (by apply Bd.mono; (repeat (first | assumption | exact Bd.lit 64 (by decide +kernel) | exact Bd.lit 2000 (by decide +kernel) | apply Bd.neg | apply Bd.fdiv | apply Bd.mul | apply Bd.add2 | apply Bd.sub2)); decide), (by apply Bd.mono; (repeat (first | assumption | exact Bd.lit 64 (by decide +kernel) | exact Bd.lit 2000 (by decide +kernel) | apply Bd.neg | apply Bd.fdiv | apply Bd.mul | apply Bd.add2 | apply Bd.sub2)); decide), (by apply Bd.mono; (repeat (first | assumption | exact Bd.lit 64 (by decide +kernel) | exact Bd.lit 2000 (by decide +kernel) | apply Bd.neg | apply Bd.fdiv | apply Bd.mul | apply Bd.add2 | apply Bd.sub2)); decide), (by apply Bd.mono; (repeat (first | assumption | exact Bd.lit 64 (by decide +kernel) | exact Bd.lit 2000 (by decide +kernel) | apply Bd.neg | apply Bd.fdiv | apply Bd.mul | apply Bd.add2 | apply Bd.sub2)); decide), (by apply Bd.mono; (repeat (first | assumption | exact Bd.lit 64 (by decide +kernel) | exact Bd.lit 2000 (by decide +kernel) | apply Bd.neg | apply Bd.fdiv | apply Bd.mul | apply Bd.add2 | apply Bd.sub2)); decide)⟩
  refine ws_seq (ws_drop (we_callE (wa_cons (we_var rfl (wa_nil ⟨_, rfl, sz, fun hd => ?_, he⟩)))))
  have hd1 : p * t - r * q = 1 ∨ p * t - r * q = -1 := hd
  have hk := hk hd
  have bd : Bd 3 (p * t - r * q) := by rcases hd1 with h | h <;> rw [h] <;> exact Bd.lit 3 (by decide)
  refine ws_seq (ws_set (we_meth (we_var rfl ⟨_, _, rfl, by decide +kernel, (wa_nil ⟨_, _, _, _, _, _, rfl, (by apply Bd.mono; (repeat (first | assumption | exact Bd.lit 64 (by decide +kernel) | exact Bd.lit 2000 (by decide +kernel) | apply Bd.neg | apply Bd.fdiv | apply Bd.mul | apply Bd.add2 | apply Bd.sub2)); decide), (by apply Bd.mono; (repeat (first | assumption | exact Bd.lit 64 (by decide +kernel) | exact Bd.lit 2000 (by decide +kernel) | apply Bd.neg | apply Bd.fdiv | apply Bd.mul | apply Bd.add2 | apply Bd.sub2)); decide), (by apply Bd.mono; (repeat (first | assumption | exact Bd.lit 64 (by decide +kernel) | exact Bd.lit 2000 (by decide +kernel) | apply Bd.neg | apply Bd.fdiv | apply Bd.mul | apply Bd.add2 | apply Bd.sub2)); decide), (by apply Bd.mono; (repeat (first | assumption | exact Bd.lit 64 (by decide +kernel) | exact Bd.lit 2000 (by decide +kernel) | apply Bd.neg | apply Bd.fdiv | apply Bd.mul | apply Bd.add2 | apply Bd.sub2)); decide), ?_⟩)⟩)))
  refine ws_seq (ws_set (we_call (wa_cons (we_var rfl (wa_cons (we_op (we_fy T (we_fn T (we_var rfl ⟨_, _, rfl, ⟨_, _, _, rfl, (we_var rfl (ro_i (cmc (by apply Bd.mono; (repeat (first | assumption | exact Bd.lit 64 (by decide +kernel) | exact Bd.lit 2000 (by decide +kernel) | apply Bd.neg | apply Bd.fdiv | apply Bd.mul | apply Bd.add2 | apply Bd.sub2)); decide) (by apply Bd.mono; (repeat (first | assumption | exact Bd.lit 64 (by decide +kernel) | exact Bd.lit 2000 (by decide +kernel) | apply Bd.neg | apply Bd.fdiv | apply Bd.mul | apply Bd.add2 | apply Bd.sub2)); decide)) (wa_cons (we_op (we_neg (we_fy T (we_fe T (we_var rfl ⟨_, _, rfl, ⟨_, _, _, rfl, ⟨_, rfl, (we_var rfl (ro_i (cmc (by apply Bd.mono; (repeat (first | assumption | exact Bd.lit 64 (by decide +kernel) | exact Bd.lit 2000 (by decide +kernel) | apply Bd.neg | apply Bd.fdiv | apply Bd.mul | apply Bd.add2 | apply Bd.sub2)); decide) (by apply Bd.mono; (repeat (first | assumption | exact Bd.lit 64 (by decide +kernel) | exact Bd.lit 2000 (by decide +kernel) | apply Bd.neg | apply Bd.fdiv | apply Bd.mul | apply Bd.add2 | apply Bd.sub2)); decide)) (wa_nil ⟨_, _, _, rfl, sz, (by apply Bd.mono; (repeat (first | assumption | exact Bd.lit 64 (by decide +kernel) | exact Bd.lit 2000 (by decide +kernel) | apply Bd.neg | apply Bd.fdiv | apply Bd.mul | apply Bd.add2 | apply Bd.sub2)); decide), (by apply Bd.mono; (repeat (first | assumption | exact Bd.lit 64 (by decide +kernel) | exact Bd.lit 2000 (by decide +kernel) | apply Bd.neg | apply Bd.fdiv | apply Bd.mul | apply Bd.add2 | apply Bd.sub2)); decide), ?_⟩)))⟩⟩⟩))))))))⟩⟩)))))))))
  refine ws_seq (ws_set (we_call (wa_cons (we_var rfl (wa_cons (we_op (we_neg (we_fx T (we_fn T (we_var rfl ⟨_, _, rfl, ⟨_, _, _, rfl, ⟨_, rfl, (we_var rfl (ro_i (cmc (by apply Bd.mono; (repeat (first | assumption | exact Bd.lit 64 (by decide +kernel) | exact Bd.lit 2000 (by decide +kernel) | apply Bd.neg | apply Bd.fdiv | apply Bd.mul | apply Bd.add2 | apply Bd.sub2)); decide) (by apply Bd.mono; (repeat (first | assumption | exact Bd.lit 64 (by decide +kernel) | exact Bd.lit 2000 (by decide +kernel) | apply Bd.neg | apply Bd.fdiv | apply Bd.mul | apply Bd.add2 | apply Bd.sub2)); decide)) (wa_cons (we_op (we_fx T (we_fe T (we_var rfl ⟨_, _, rfl, ⟨_, _, _, rfl, (we_var rfl (ro_i (cmc (by apply Bd.mono; (repeat (first | assumption | exact Bd.lit 64 (by decide +kernel) | exact Bd.lit 2000 (by decide +kernel) | apply Bd.neg | apply Bd.fdiv | apply Bd.mul | apply Bd.add2 | apply Bd.sub2)); decide) (by apply Bd.mono; (repeat (first | assumption | exact Bd.lit 64 (by decide +kernel) | exact Bd.lit 2000 (by decide +kernel) | apply Bd.neg | apply Bd.fdiv | apply Bd.mul | apply Bd.add2 | apply Bd.sub2)); decide)) (wa_nil ⟨_, _, _, rfl, sz, (by apply Bd.mono; (repeat (first | assumption | exact Bd.lit 64 (by decide +kernel) | exact Bd.lit 2000 (by decide +kernel) | apply Bd.neg | apply Bd.fdiv | apply Bd.mul | apply Bd.add2 | apply Bd.sub2)); decide), (by apply Bd.mono; (repeat (first | assumption | exact Bd.lit 64 (by decide +kernel) | exact Bd.lit 2000 (by decide +kernel) | apply Bd.neg | apply Bd.fdiv | apply Bd.mul | apply Bd.add2 | apply Bd.sub2)); decide), ?_⟩)))⟩⟩)))))))⟩⟩⟩))))))))))
  refine (ws_ret (we_make (wa_cons (we_var rfl (wa_cons (we_var rfl (wa_nil ⟨_, _, rfl, .inl ⟨_, _, _, _, _, _, rfl, rfl, ?_⟩⟩)))))))
  exact hk
def pr_Renaming_mul (T : Tx K mg) : Pr := fun ds B k e => ∃ A C : T6, ds = [rn6 T A, rn6 T C] ∧ Sz 20000 A ∧ Sz 20000 C ∧ k (rn6 T (cm6 A C)) B
theorem okD_Renaming_mul (T : Tx K mg) : FnOk P w K mg base (L2.CX P w) 9 T.a_Renaming_mul T.d_Renaming_mul P_Renaming_mul (spD K (pr_Renaming_mul T)) := by
  refine T.F_Renaming_mul.okX sc_Renaming_mul (spD_len fun ds B k e h => by obtain ⟨⟨⟨p, q, s1⟩, ⟨r, t, u⟩⟩, ⟨⟨p', q', s'⟩, ⟨r', t', u'⟩⟩, rfl, ⟨hp, hq, hs1, hr1, ht, hu1⟩, ⟨gp, gq, gs, gr, gt, gu⟩, hk⟩ := h; rfl) (fun cdv A outer s H vs Q E hr h => ?_)
  have G_Renaming_init : FnOk P w K mg base (L2.CX P w) 5 _ _ _ _ := okD_Renaming_init T
  have G_image_by : FnOk P w K mg base (L2.CX P w) 8 _ _ _ _ := okD_image_by T
  obtain ⟨G, ds, B, k, e, hs, hR, ⟨⟨⟨p, q, s1⟩, ⟨r, t, u⟩⟩, ⟨⟨p', q', s'⟩, ⟨r', t', u'⟩⟩, rfl, ⟨hp, hq, hs1, hr1, ht, hu1⟩, ⟨gp, gq, gs, gr, gt, gu⟩, hk⟩, hK, hX⟩ := h
  refine ⟨_, (pss_cons (ps_if (pt_not (pt_val (pe_callB call_isi (by rfl) T.n_isinstance (by decide +kernel) (pa_cons (pv 1) (pa_cons (pe_glob (v := .ref T.C_Renaming) (by rfl) T.g_C_Renaming rfl) pa_nil)))))
 (pss_one ps_never)
 pss_nil)
 (pss_one (ps_ret (pe_make T.M_Renaming G_Renaming_init (hr.mono (by decide)) (by rfl) T.g_C_Renaming T.b_Renaming_init .nil passL (pa_cons (pe_call G_image_by (hr.mono (by decide)) (by rfl) T.g_image_by T.F_image_by.kp T.b_image_by .nil passL (pa_cons (pv 0) (pa_cons (pe_fld (pv 1) rfl) pa_nil))) (pa_cons (pe_call G_image_by (hr.mono (by decide)) (by rfl) T.g_image_by T.F_image_by.kp T.b_image_by .nil passL (pa_cons (pv 0) (pa_cons (pe_fld (pv 1) rfl) pa_nil))) pa_nil)))))), run_body (ρ := [some (rn6 T ((p, q, s1), (r, t, u))), some (rn6 T ((p', q', s'), (r', t', u')))]) hs hR hK hX rfl ?_⟩
  refine ws_seq (ws_if (wt_not (wt_val (we_isi_Renaming T (wa_cons (we_var rfl (wa_cons (we_val (wa_nil ⟨_, _, rfl, ⟨_, rfl, ⟨fun hc1 => ?_, fun hc2 => ?_⟩⟩⟩)))))))))
  · cases hc1
  · refine ws_next ?_
    refine (ws_ret (we_make (wa_cons (we_call (wa_cons (we_var rfl (wa_cons (we_fe T (we_var rfl ⟨_, _, rfl, (wa_nil ⟨_, _, _, _, _, _, _, _, _, rfl, by assumption, by assumption, by assumption, by assumption, by assumption, by assumption, by assumption, by assumption, by assumption, (wa_cons (we_call (wa_cons (we_var rfl (wa_cons (we_fn T (we_var rfl ⟨_, _, rfl, (wa_nil ⟨_, _, _, _, _, _, _, _, _, rfl, by assumption, by assumption, by assumption, by assumption, by assumption, by assumption, by assumption, by assumption, by assumption, (wa_nil ⟨_, _, rfl, .inl ⟨_, _, _, _, _, _, rfl, rfl, ?_⟩⟩)⟩)⟩)))))))⟩)⟩)))))))))
    exact hk
end
end AW

set_option linter.all false
set_option maxRecDepth 100000
set_option maxHeartbeats 8000000
namespace AW
open PySem PySem.Spec PyProof.Rows L2
variable [Tbs]
section
variable {P : Program} {w : World} {K : PySem.W.Frag} {mg : Str → Option Value} {base : Heap}
/-! ### letters -/
inductive Lt where
  | e | n | w | s
def strL : Lt → Str
  | .e => "e"
  | .n => "n"
  | .w => "w"
  | .s => "s"
def ltOf (i : Int) : Lt := if i = 0 then .e else if i = 1 then .n else if i = 2 then .w else .s
abbrev lD (l : Lt) : D := .str (strL l)
theorem enws_at {i : Int} (h0 : 0 ≤ i) (h1 : i < 4) : ∃ c, atI ("enws" : Str).cps.toList i = some c ∧ (⟨#[c]⟩ : Str) = strL (ltOf i) := by
  have h : i = 0 ∨ i = 1 ∨ i = 2 ∨ i = 3 := by omega
  have e : ("enws" : Str).cps.toList = [101, 110, 119, 115] := by decide +kernel
  rw [e]
  rcases h with rfl | rfl | rfl | rfl
  · exact ⟨101, rfl, by decide +kernel⟩
  · exact ⟨110, rfl, by decide +kernel⟩
  · exact ⟨119, rfl, by decide +kernel⟩
  · exact ⟨115, rfl, by decide +kernel⟩
theorem enws_len : ("enws" : Str).length ≤ sizeLine := by decide +kernel
def stepL : Lt → T3
  | .e => (1, 0, 0)
  | .n => (0, 1, 0)
  | .w => (-1, 0, 0)
  | .s => (0, -1, 0)
def flipL : Lt → Lt
  | .e => .w
  | .n => .s
  | .w => .e
  | .s => .n
def joinT (p q : T3) : T3 := (p.1 + q.1, p.2.1 + q.2.1, p.2.2 + q.2.2 + p.1 * q.2.1)
def backT (p : T3) : T3 := (-p.1, -p.2.1, p.1 * p.2.1 - p.2.2)
def endL (ls : List Lt) : T3 := ls.foldl (fun p l => joinT p (stepL l)) (0, 0, 0)
theorem joinT_assoc (p q r : T3) : joinT (joinT p q) r = joinT p (joinT q r) := by
  obtain ⟨a, b, c⟩ := p
  obtain ⟨d, e, f⟩ := q
  obtain ⟨g, h, i⟩ := r
  simp only [joinT, Prod.mk.injEq]
  refine ⟨by omega, by omega, by grind⟩
theorem joinT_home (p : T3) : joinT (0, 0, 0) p = p ∧ joinT p (0, 0, 0) = p := by
  obtain ⟨a, b, c⟩ := p
  constructor <;> simp [joinT]
theorem joinT_back (p : T3) : joinT p (backT p) = (0, 0, 0) ∧ joinT (backT p) p = (0, 0, 0) := by
  obtain ⟨a, b, c⟩ := p
  constructor
  · simp only [joinT, backT, Prod.mk.injEq]
    refine ⟨by omega, by omega, by grind⟩
  · simp only [joinT, backT, Prod.mk.injEq]
    refine ⟨by omega, by omega, by grind⟩
theorem backT_join (p q : T3) : backT (joinT p q) = joinT (backT q) (backT p) := by
  obtain ⟨a, b, c⟩ := p
  obtain ⟨d, e, f⟩ := q
  simp only [joinT, backT, Prod.mk.injEq]
  refine ⟨by omega, by omega, by grind⟩
theorem fold_join (ls : List Lt) : ∀ p : T3, ls.foldl (fun p l => joinT p (stepL l)) p = joinT p (endL ls) := by
  unfold endL
  induction ls with
  | nil => intro p; exact ((joinT_home p).2).symm
  | cons l r ih =>
    intro p
    rw [List.foldl_cons, List.foldl_cons, ih, ih (joinT (0, 0, 0) (stepL l)), (joinT_home _).1, joinT_assoc]
theorem endL_append (l m : List Lt) : endL (l ++ m) = joinT (endL l) (endL m) := by
  show (l ++ m).foldl _ _ = _
  rw [List.foldl_append, fold_join m]
  rfl
theorem endL_one (l : Lt) : endL [l] = stepL l := by
  cases l <;> rfl
theorem step_flip (l : Lt) : stepL (flipL l) = backT (stepL l) := by
  cases l <;> rfl
theorem endL_back (ls : List Lt) : endL (ls.reverse.map flipL) = backT (endL ls) := by
  induction ls with
  | nil => rfl
  | cons l r ih =>
    rw [List.reverse_cons, List.map_append, endL_append, ih, show endL (List.map flipL [l]) = backT (stepL l) from by rw [List.map_singleton, endL_one, step_flip], ← backT_join, ← endL_one l, ← endL_append]
    rfl
theorem fold_bd : ∀ (ls : List Lt) (p : T3) (m : Nat), p.1.natAbs ≤ m → p.2.1.natAbs ≤ m → p.2.2.natAbs ≤ m * m →
    (ls.foldl (fun p l => joinT p (stepL l)) p).1.natAbs ≤ m + ls.length ∧ (ls.foldl (fun p l => joinT p (stepL l)) p).2.1.natAbs ≤ m + ls.length ∧ (ls.foldl (fun p l => joinT p (stepL l)) p).2.2.natAbs ≤ (m + ls.length) * (m + ls.length)
  | [], p, m, h1, h2, h3 => ⟨h1, h2, h3⟩
  | l :: r, p, m, h1, h2, h3 => by
    have e : m + (l :: r).length = m + 1 + r.length := by rw [List.length_cons]; omega
    rw [e, List.foldl_cons]
    obtain ⟨x, y, a⟩ := p
    simp only at h1 h2 h3
    have sq : (m + 1) * (m + 1) = m * m + m + m + 1 := by grind
    refine fold_bd r _ (m + 1) ?_ ?_ ?_
    · cases l <;> simp only [joinT, stepL] <;> omega
    · cases l <;> simp only [joinT, stepL] <;> omega
    · rw [sq]
      cases l <;> simp only [joinT, stepL] <;> omega
theorem endL_bd (ls : List Lt) : (endL ls).1.natAbs ≤ ls.length ∧ (endL ls).2.1.natAbs ≤ ls.length ∧ (endL ls).2.2.natAbs ≤ ls.length * ls.length := by
  have := fold_bd ls (0, 0, 0) 0 (Nat.le_refl _) (Nat.le_refl _) (Nat.le_refl _)
  rw [Nat.zero_add] at this
  exact this
/-! ### renamed -/
theorem tri2 (x : Int) : 2 * (x * (x - 1)).fdiv 2 = x * (x - 1) := by
  have h : (x * (x - 1)) % 2 = 0 := by
    have q : x % 2 = 0 ∨ x % 2 = 1 := by omega
    rcases q with h | h
    · rw [Int.mul_emod, h]; simp
    · rw [Int.mul_emod, Int.sub_emod, h]; simp
  have e : (x * (x - 1)).fdiv 2 = x * (x - 1) / 2 := by rw [Int.fdiv_eq_ediv_of_nonneg _ (by decide)]
  rw [e]
  omega
theorem tri_add (x y : Int) : ((x + y) * (x + y - 1)).fdiv 2 = (x * (x - 1)).fdiv 2 + (y * (y - 1)).fdiv 2 + x * y := by
  have h1 := tri2 x
  have h2 := tri2 y
  have h3 := tri2 (x + y)
  have e : (x + y) * (x + y - 1) = x * (x - 1) + y * (y - 1) + 2 * (x * y) := by grind
  omega
theorem tri_neg (x : Int) : (-x * (-x - 1)).fdiv 2 = (x * (x - 1)).fdiv 2 + x := by
  have h1 := tri2 x
  have h2 := tri2 (-x)
  have e : -x * (-x - 1) = x * (x - 1) + 2 * x := by grind
  omega
theorem im_join (e n p q : T3) : imT e n (joinT p q) = joinT (imT e n p) (imT e n q) := by
  obtain ⟨a, b, c⟩ := e
  obtain ⟨d, f, g⟩ := n
  obtain ⟨x, y, z⟩ := p
  obtain ⟨s, t, m⟩ := q
  simp only [imT, joinT, Prod.mk.injEq, tri_add]
  generalize (x * (x - 1)).fdiv 2 = h1
  generalize (y * (y - 1)).fdiv 2 = h2
  generalize (s * (s - 1)).fdiv 2 = h3
  generalize (t * (t - 1)).fdiv 2 = h4
  refine ⟨by grind, by grind, by grind⟩
theorem im_home (e n : T3) : imT e n (0, 0, 0) = (0, 0, 0) := by
  obtain ⟨a, b, c⟩ := e
  obtain ⟨d, f, g⟩ := n
  have h : ((0 : Int) * (0 - 1)).fdiv 2 = 0 := by decide
  simp only [imT, Prod.mk.injEq, h]
  refine ⟨by omega, by omega, by simp⟩
theorem im_back (e n p : T3) : imT e n (backT p) = backT (imT e n p) := by
  have h1 := im_join e n p (backT p)
  rw [(joinT_back p).1, im_home] at h1
  have h2 : joinT (backT (imT e n p)) (joinT (imT e n p) (imT e n (backT p))) = joinT (backT (imT e n p)) (0, 0, 0) := by rw [← h1]
  rw [← joinT_assoc, (joinT_back _).2, (joinT_home _).1, (joinT_home _).2] at h2
  exact h2
def imgL (e n : T3) : Lt → T3
  | .e => e
  | .n => n
  | .w => backT e
  | .s => backT n
theorem im_step (e n : T3) (l : Lt) : imT e n (stepL l) = imgL e n l := by
  have h1 : ((1 : Int) * (1 - 1)).fdiv 2 = 0 := by decide
  have h0 : ((0 : Int) * (0 - 1)).fdiv 2 = 0 := by decide
  have he : imT e n (1, 0, 0) = e := by
    obtain ⟨a, b, c⟩ := e
    obtain ⟨d, f, g⟩ := n
    simp [imT, h1, h0]
  have hn : imT e n (0, 1, 0) = n := by
    obtain ⟨a, b, c⟩ := e
    obtain ⟨d, f, g⟩ := n
    simp [imT, h1, h0]
  cases l with
  | e => exact he
  | n => exact hn
  | w =>
    have := im_back e n (1, 0, 0)
    rw [he] at this
    exact this
  | s =>
    have := im_back e n (0, 1, 0)
    rw [hn] at this
    exact this
def imgW (e n : T3) (ls : List Lt) : T3 := ls.foldl (fun p l => joinT p (imgL e n l)) (0, 0, 0)
theorem take_imgW {e n : T3} {ls : List Lt} {i : Nat} {l : Lt} (h : ls[i]? = some l) : imgW e n (ls.take (i + 1)) = joinT (imgW e n (ls.take i)) (imgL e n l) := by
  unfold imgW
  rw [List.take_add_one, h, List.foldl_append]
  rfl
theorem img_walk (e n : T3) (ls : List Lt) : imgW e n ls = imT e n (endL ls) := by
  have h : ∀ (ls : List Lt) (p : T3), ls.foldl (fun p l => joinT p (imgL e n l)) (imT e n p) = imT e n (ls.foldl (fun p l => joinT p (stepL l)) p) := by
    intro ls
    induction ls with
    | nil => intro p; rfl
    | cons l r ih =>
      intro p
      rw [List.foldl_cons, List.foldl_cons, ← im_step e n l, ← im_join, ih]
  have := h ls (0, 0, 0)
  rw [im_home] at this
  exact this
theorem im_eq (p q s r t u x y a : Int) : t3 (y * r + x * p) (y * t + x * q) (y * u + (y * (y - 1)).fdiv 2 * r * t + (x * s + (x * (x - 1)).fdiv 2 * p * q) + y * r * (x * q) + (p * t - r * q) * a) = tD (imT (p, q, s) (r, t, u) (x, y, a)) := by
  show t3 _ _ _ = t3 _ _ _
  have e1 : y * r + x * p = x * p + y * r := by omega
  have e2 : y * t + x * q = x * q + y * t := by omega
  have e3 : y * u + (y * (y - 1)).fdiv 2 * r * t + (x * s + (x * (x - 1)).fdiv 2 * p * q) + y * r * (x * q) + (p * t - r * q) * a = y * u + r * t * (y * (y - 1)).fdiv 2 + (x * s + p * q * (x * (x - 1)).fdiv 2) + y * r * x * q + (p * t - r * q) * a := by grind
  rw [e1, e2, e3]
  rfl
theorem im_seen (p q r x y a : Int) : imT (1, 0, 0 + (p * 0 - 1 * q)) (0, 1, 0 + (p * 1 - 0 * q)) (x, y, a) = joinT (joinT (p, q, r) (x, y, a)) (backT (p, q, r)) := by
  simp only [imT, joinT, backT, Prod.mk.injEq]
  refine ⟨by omega, by omega, ?_⟩
  generalize (x * (x - 1)).fdiv 2 = h1
  generalize (y * (y - 1)).fdiv 2 = h2
  grind
theorem im_same (x y a : Int) : imT (1, 0, 0) (0, 1, 0) (x, y, a) = (x, y, a) := by
  simp only [imT, Prod.mk.injEq]
  generalize (x * (x - 1)).fdiv 2 = h1
  generalize (y * (y - 1)).fdiv 2 = h2
  refine ⟨by omega, by omega, by grind⟩
theorem im_round (p q s r t u a : Int) : imT (p, q, s) (r, t, u) (0, 0, a) = (0, 0, (p * t - r * q) * a) := by
  have h : ((0 : Int) * (0 - 1)).fdiv 2 = 0 := by decide
  simp only [imT, Prod.mk.injEq, h]
  refine ⟨by omega, by omega, by grind⟩
end
end AW

set_option linter.all false
set_option maxRecDepth 100000
set_option maxHeartbeats 8000000
namespace AW
open PySem PySem.Spec PyProof.Rows L2
variable [Tbs]
section
variable {P : Program} {w : World} {K : PySem.W.Frag} {mg : Str → Option Value} {base : Heap}
/-! ### renamings put together -/
def uu (p : T3) : Int := 2 * p.2.2 - p.1 * p.2.1
theorem im_uu (e n p : T3) : uu (imT e n p) = p.1 * uu e + p.2.1 * uu n + (e.1 * n.2.1 - n.1 * e.2.1) * uu p := by
  obtain ⟨a, b, c⟩ := e
  obtain ⟨d, f, g⟩ := n
  obtain ⟨x, y, z⟩ := p
  simp only [uu, imT]
  have h1 := tri2 x
  have h2 := tri2 y
  generalize (x * (x - 1)).fdiv 2 = t1 at h1 ⊢
  generalize (y * (y - 1)).fdiv 2 = t2 at h2 ⊢
  grind
theorem t3_ext {p q : T3} (h1 : p.1 = q.1) (h2 : p.2.1 = q.2.1) (h3 : uu p = uu q) : p = q := by
  obtain ⟨a, b, c⟩ := p
  obtain ⟨d, f, g⟩ := q
  simp only [uu] at h1 h2 h3
  subst h1 h2
  simp only [Prod.mk.injEq, true_and]
  omega
theorem im_im (A C : T6) (p : T3) : imT A.1 A.2 (imT C.1 C.2 p) = imT (cm6 A C).1 (cm6 A C).2 p := by
  refine t3_ext ?_ ?_ ?_
  · simp only [imT, cm6]; grind
  · simp only [imT, cm6]; grind
  · rw [im_uu, im_uu, im_uu (cm6 A C).1]
    simp only [cm6]
    rw [im_uu, im_uu]
    simp only [imT]
    grind
theorem cm_assoc (A C F : T6) : cm6 (cm6 A C) F = cm6 A (cm6 C F) := by
  show (imT _ _ _, imT _ _ _) = (imT _ _ (imT _ _ _), imT _ _ (imT _ _ _))
  rw [im_im, im_im]
theorem cm_id (A : T6) : cm6 A id6 = A := by
  obtain ⟨e, n⟩ := A
  show (imT e n (stepL .e), imT e n (stepL .n)) = (e, n)
  rw [im_step, im_step]
  rfl
theorem id_cm (A : T6) : cm6 id6 A = A := by
  obtain ⟨⟨p, q, s⟩, ⟨r, t, u⟩⟩ := A
  show (imT (1, 0, 0) (0, 1, 0) _, imT (1, 0, 0) (0, 1, 0) _) = _
  rw [im_same, im_same]
theorem pw_add (A : T6) (i j : Nat) : pw6 A (i + j) = cm6 (pw6 A i) (pw6 A j) := by
  induction i with
  | zero => rw [Nat.zero_add]; exact (id_cm _).symm
  | succ i ih =>
    rw [Nat.succ_add]
    show cm6 A (pw6 A (i + j)) = cm6 (cm6 A (pw6 A i)) (pw6 A j)
    rw [ih, cm_assoc]
theorem pw_one (A : T6) : pw6 A 1 = A := cm_id A
theorem det_cm (A C : T6) : det6 (cm6 A C) = det6 A * det6 C := by
  simp only [det6, cm6, imT]
  grind
theorem inv_cm (A : T6) (h : det6 A = 1 ∨ det6 A = -1) : cm6 A (inv6 A) = id6 := by
  have key : ∀ x y : Int, imT A.1 A.2 (x, y, -det6 A * (imT A.1 A.2 (x, y, 0)).2.2) = (x * A.1.1 + y * A.2.1, x * A.1.2.1 + y * A.2.2.1, 0) := by
    intro x y
    have e : imT A.1 A.2 (x, y, -det6 A * (imT A.1 A.2 (x, y, 0)).2.2) = ((imT A.1 A.2 (x, y, 0)).1, (imT A.1 A.2 (x, y, 0)).2.1, (imT A.1 A.2 (x, y, 0)).2.2 + det6 A * (-det6 A * (imT A.1 A.2 (x, y, 0)).2.2)) := by
      simp only [imT, det6, Prod.mk.injEq]
      refine ⟨trivial, trivial, by grind⟩
    rw [e]
    show (_, _, _) = _
    simp only [Prod.mk.injEq]
    refine ⟨rfl, rfl, ?_⟩
    rcases h with h | h <;> rw [h] <;> grind
  show (imT A.1 A.2 (inv6 A).1, imT A.1 A.2 (inv6 A).2) = id6
  show (imT A.1 A.2 (A.2.2.1 * det6 A, -A.1.2.1 * det6 A, -det6 A * _), imT A.1 A.2 (-A.2.1 * det6 A, A.1.1 * det6 A, -det6 A * _)) = _
  rw [key, key]
  have hh : det6 A * det6 A = 1 := by rcases h with h | h <;> rw [h] <;> rfl
  have hd : det6 A = A.1.1 * A.2.2.1 - A.2.1 * A.1.2.1 := rfl
  simp only [id6, Prod.mk.injEq]
  refine ⟨⟨?_, ?_, trivial⟩, ?_, ?_, trivial⟩
  · grind
  · grind
  · grind
  · grind
end
end AW

set_option linter.all false
set_option maxRecDepth 100000
set_option maxHeartbeats 8000000
namespace AW
open PySem PySem.Spec PyProof.Rows L2
variable [Tbs]
section
variable {P : Program} {w : World} {K : PySem.W.Frag} {mg : Str → Option Value} {base : Heap}
def dt (e n : T3) : Int := e.1 * n.2.1 - n.1 * e.2.1
theorem im_inj {e n p q : T3} (hd : dt e n = 1 ∨ dt e n = -1) (h : imT e n p = imT e n q) : p = q := by
  have h1 := congrArg Prod.fst h
  have h2 := congrArg (fun z : T3 => z.2.1) h
  have h3 := congrArg uu h
  rw [im_uu, im_uu] at h3
  simp only [imT] at h1 h2
  have e1 : dt e n * p.1 = dt e n * q.1 := by unfold dt; grind
  have e2 : dt e n * p.2.1 = dt e n * q.2.1 := by unfold dt; grind
  have e1 : p.1 = q.1 := by rcases hd with hd | hd <;> rw [hd] at e1 <;> omega
  have e2 : p.2.1 = q.2.1 := by rcases hd with hd | hd <;> rw [hd] at e2 <;> omega
  refine t3_ext e1 e2 ?_
  rw [e1, e2, show e.1 * n.2.1 - n.1 * e.2.1 = dt e n from rfl] at h3
  rcases hd with hd | hd <;> rw [hd] at h3 <;> omega
/-- the two numbers over their divisor -/
theorem cop_of {f s : Int} (nz : f ≠ 0 ∨ s ≠ 0) : ∃ G : Int, 0 < G ∧ G = (Nat.gcd f.natAbs s.natAbs : Int) ∧ ∃ a b : Int, f = G * a ∧ s = G * b ∧ f.fdiv G = a ∧ s.fdiv G = b ∧ Nat.gcd a.natAbs b.natAbs = 1 := by
  have gp : 0 < Nat.gcd f.natAbs s.natAbs := by
    apply Nat.pos_of_ne_zero
    intro z
    have := Nat.gcd_eq_zero_iff.mp z
    omega
  generalize hG : (Nat.gcd f.natAbs s.natAbs : Int) = G
  have hG0 : 0 < G := by omega
  have d1 : G ∣ f := by
    rw [← hG]
    exact Int.ofNat_dvd_left.mpr (Nat.gcd_dvd_left _ _)
  have d2 : G ∣ s := by
    rw [← hG]
    exact Int.ofNat_dvd_left.mpr (Nat.gcd_dvd_right _ _)
  obtain ⟨a, ea⟩ := d1
  obtain ⟨b, eb⟩ := d2
  refine ⟨G, hG0, rfl, a, b, ea, eb, ?_, ?_, ?_⟩
  · rw [ea]; exact Int.mul_fdiv_cancel_left a (by omega)
  · rw [eb]; exact Int.mul_fdiv_cancel_left b (by omega)
  · have e1 : f.natAbs = G.natAbs * a.natAbs := by rw [ea, Int.natAbs_mul]
    have e2 : s.natAbs = G.natAbs * b.natAbs := by rw [eb, Int.natAbs_mul]
    have e3 : Nat.gcd f.natAbs s.natAbs = G.natAbs := by omega
    rw [e1, e2, Nat.gcd_mul_left] at e3
    have : G.natAbs * Nat.gcd a.natAbs b.natAbs = G.natAbs * 1 := by omega
    exact Nat.eq_of_mul_eq_mul_left (by omega) this
theorem fdiv_ex {x n : Int} (h : x.fmod n = 0) : x = n * x.fdiv n := by
  have := Int.mul_fdiv_add_fmod x n
  omega
theorem fmod_of_dvd {x n : Int} (h : n ∣ x) : x.fmod n = 0 := Int.fmod_eq_zero_of_dvd h
theorem lex2 (i j : Int) : HT.lexLt [i, j] [0, 0] = decide (i < 0 ∨ (i = 0 ∧ j < 0)) := by
  rw [HT.lexLt_cons, HT.lexLt_cons]
  by_cases h1 : i < 0
  · have z : i ≠ 0 := by omega
    simp [h1, z]
  · by_cases h2 : i = 0
    · subst h2
      by_cases h3 : j < 0
      · have z : j ≠ 0 := by omega
        simp [h3, z]
      · by_cases h4 : j = 0
        · subst h4
          simp
          decide
        · simp [h3, h4]
    · simp [h1, h2]
theorem gcd_tu {t u v : Int} (ht : 0 < t) (hg : Nat.gcd u.natAbs v.natAbs = 1) : ((Nat.gcd (t * u).natAbs (t * v).natAbs : Nat) : Int) = t := by
  rw [Int.natAbs_mul, Int.natAbs_mul, Nat.gcd_mul_left, hg]
  omega
theorem fdiv_tu {t u : Int} (ht : t ≠ 0) : (t * u).fdiv t = u := Int.mul_fdiv_cancel_left u ht
theorem bd_one {k : Nat} {t u : Int} (hu : u ≠ 0) (h : Bd k (t * u)) : Bd k t := by
  unfold Bd at *
  rw [Int.natAbs_mul] at h
  have : 1 ≤ u.natAbs := by omega
  have := Nat.mul_le_mul_left t.natAbs this
  omega
theorem bd_fac {k : Nat} {t u v : Int} (ht : 0 < t) (hg : Nat.gcd u.natAbs v.natAbs = 1) (hx : Bd k (t * u)) (hy : Bd k (t * v)) : Bd k t ∧ Bd k u ∧ Bd k v := by
  have z : u ≠ 0 ∨ v ≠ 0 := by
    apply Classical.byContradiction
    intro n
    have h1 : u = 0 := Classical.byContradiction fun v => n (.inl v)
    have h2 : v = 0 := Classical.byContradiction fun v => n (.inr v)
    subst h1 h2
    simp at hg
  refine ⟨?_, ?_, ?_⟩
  · rcases z with z | z
    · exact bd_one z hx
    · exact bd_one z hy
  · exact bd_one (t := u) (u := t) (by omega) (by rw [Int.mul_comm]; exact hx)
  · exact bd_one (t := v) (u := t) (by omega) (by rw [Int.mul_comm]; exact hy)
theorem uv_nz {u v : Int} (hg : Nat.gcd u.natAbs v.natAbs = 1) : u ≠ 0 ∨ v ≠ 0 := by
  apply Classical.byContradiction
  intro n
  have h1 : u = 0 := Classical.byContradiction fun v => n (.inl v)
  have h2 : v = 0 := Classical.byContradiction fun v => n (.inr v)
  subst h1 h2
  simp at hg
theorem tw0 {u v x y : Int} (hg : Nat.gcd u.natAbs v.natAbs = 1) (h : u * y - x * v = 0) : ∃ n : Int, x = n * u ∧ y = n * v := by
  by_cases hu : u = 0
  · subst hu
    have hv : v.natAbs = 1 := by simpa using hg
    have hx : x * v = 0 := by omega
    have hx0 : x = 0 := by
      rcases Int.mul_eq_zero.mp hx with z | z
      · exact z
      · omega
    refine ⟨v * y, by omega, ?_⟩
    have : v = 1 ∨ v = -1 := by omega
    rcases this with rfl | rfl <;> omega
  · have d : u ∣ x := Bz.cop_dvd hg ⟨y, by omega⟩
    obtain ⟨n, rfl⟩ := d
    refine ⟨n, Int.mul_comm _ _, ?_⟩
    apply Int.eq_of_mul_eq_mul_left hu
    grind
end
end AW

set_option linter.all false
set_option maxRecDepth 100000
set_option maxHeartbeats 8000000
namespace AW
open PySem PySem.Spec PyProof.Rows L2
variable [Tbs]
section
variable {P : Program} {w : World} {K : PySem.W.Frag} {mg : Str → Option Value} {base : Heap}
/-! ### alike lists -/
abbrev im6 (A : T6) (p : T3) : T3 := imT A.1 A.2 p
def On (A : T6) : Prop := det6 A = 1 ∨ det6 A = -1
theorem im6_inj {A : T6} (h : On A) {p q : T3} (e : im6 A p = im6 A q) : p = q := im_inj (e := A.1) (n := A.2) h e
theorem cm6_inj {A C F : T6} (h : On A) (e : cm6 A C = cm6 A F) : C = F := by
  have e1 := congrArg Prod.fst e
  have e2 := congrArg Prod.snd e
  exact Prod.ext (im6_inj h e1) (im6_inj h e2)
theorem cm_inv {A : T6} (h : On A) : cm6 (inv6 A) A = id6 := by
  apply cm6_inj h
  rw [← cm_assoc, inv_cm A h, id_cm, cm_id]
theorem on_cm {A C : T6} (h : On A) (g : On C) : On (cm6 A C) := by
  unfold On at *
  rw [det_cm]
  rcases h with h | h <;> rcases g with g | g <;> rw [h, g] <;> decide
theorem det_inv {A : T6} (h : On A) : det6 (inv6 A) = det6 A := by
  have e := congrArg det6 (inv_cm A h)
  rw [det_cm, show det6 id6 = 1 from rfl] at e
  rcases h with h | h <;> rw [h] at e ⊢ <;> omega
theorem on_inv {A : T6} (h : On A) : On (inv6 A) := by
  unfold On
  rw [det_inv h]
  exact h
theorem map_cm (A C : T6) (L : List T3) : (L.map (im6 C)).map (im6 A) = L.map (im6 (cm6 A C)) := by
  rw [List.map_map]
  apply List.map_congr_left
  intro p _
  exact im_im A C p
theorem map_id6 (L : List T3) : L.map (im6 id6) = L := by
  have : ∀ p ∈ L, im6 id6 p = p := fun p _ => im_same p.1 p.2.1 p.2.2
  rw [List.map_congr_left this, List.map_id']
def nz (p : T3) : Bool := !decide (p.1 = 0 ∧ p.2.1 = 0)
def ny (p : T3) : Bool := !decide (p.2.1 = 0)
def nx (p : T3) : Bool := !decide (p.1 = 0)
theorem nz_t {p : T3} : nz p = true ↔ ¬ (p.1 = 0 ∧ p.2.1 = 0) := by
  unfold nz
  rw [Bool.not_eq_true', decide_eq_false_iff_not]
theorem ny_t {p : T3} : ny p = true ↔ p.2.1 ≠ 0 := by simp [ny]
theorem nx_t {p : T3} : nx p = true ↔ p.1 ≠ 0 := by simp [nx]
theorem find_map {q : T3 → Bool} {f : T3 → T3} {q2 : T3 → Bool} (L : List T3) (h : ∀ p, q (f p) = q2 p) : (L.map f).find? q = (L.find? q2).map f := by
  rw [List.find?_map]
  have : q ∘ f = q2 := funext h
  rw [this]
theorem find_sub {p q : T3 → Bool} {L : List T3} {h : T3} (hq : ∀ z, q z = true → p z = true) (hf : L.find? p = some h) (hh : q h = true) : L.find? q = some h := by
  induction L with
  | nil => cases hf
  | cons a r ih =>
    rw [List.find?_cons] at hf ⊢
    cases ha : p a with
    | true =>
      rw [ha] at hf
      cases hf
      rw [hh]
    | false =>
      rw [ha] at hf
      have : q a = false := by
        cases hqa : q a with
        | false => rfl
        | true => rw [hq a hqa] at ha; cases ha
      rw [this]
      exact ih hf
theorem find_sub0 {p q : T3 → Bool} {L : List T3} (hq : ∀ z, q z = true → p z = true) (hf : L.find? p = none) : L.find? q = none := by
  rw [List.find?_eq_none] at hf ⊢
  intro z hz h
  exact hf z hz (hq z h)
theorem ny_nz (z : T3) (h : ny z = true) : nz z = true := by
  rw [nz_t]
  rw [ny_t] at h
  exact fun e => h e.2
theorem nx_nz (z : T3) (h : nx z = true) : nz z = true := by
  rw [nz_t]
  rw [nx_t] at h
  exact fun e => h e.1
theorem nz_im {A : T6} (h : On A) (p : T3) : nz (im6 A p) = nz p := by
  have e : (im6 A p).1 = 0 ∧ (im6 A p).2.1 = 0 ↔ p.1 = 0 ∧ p.2.1 = 0 := by
    obtain ⟨⟨a, b, c⟩, ⟨d, f, g⟩⟩ := A
    obtain ⟨x, y, z⟩ := p
    simp only [On, det6] at h
    simp only [im6, imT]
    constructor
    · rintro ⟨h1, h2⟩
      have k1 : (a * f - d * b) * x = 0 := by grind
      have k2 : (a * f - d * b) * y = 0 := by grind
      rcases h with h | h <;> rw [h] at k1 k2 <;> omega
    · rintro ⟨rfl, rfl⟩
      simp
  unfold nz
  rw [decide_eq_decide.mpr e]
structure EndN (L : List T3) : Prop where
  hub : ∀ h, L.find? nz = some h → 0 < h.1 ∧ h.2.1 = 0
  sec : ∀ s, L.find? ny = some s → 0 < s.2.1 ∧ 0 ≤ s.1 ∧ s.1 < s.2.1
structure PreN (L : List T3) : Prop where
  ends : EndN L
  hub : ∀ h, L.find? nz = some h → 0 ≤ h.2.2 ∧ h.2.2 < h.1
  sec : ∀ s, L.find? ny = some s → 0 ≤ s.2.2 ∧ s.2.2 < s.2.1
theorem uniq0 {x s a b : Int} (hx : 0 < x) (e : b = a + x * s) (h1 : 0 ≤ a) (h2 : a < x) (h3 : 0 ≤ b) (h4 : b < x) : s = 0 := by
  subst e
  apply Classical.byContradiction
  intro n
  rcases Int.lt_or_gt_of_ne n with h | h
  · have : x * s ≤ x * (-1) := Int.mul_le_mul_of_nonneg_left (by omega) (by omega)
    omega
  · have : x * 1 ≤ x * s := Int.mul_le_mul_of_nonneg_left (by omega) (by omega)
    omega
/-- the linear part, where the hub keeps east -/
theorem pren_lin {L : List T3} {A : T6} (hA : On A) (h1 : EndN L) (h2 : EndN (L.map (im6 A))) {h : T3} (hh : L.find? nz = some h) : A.1.1 = 1 ∧ A.1.2.1 = 0 ∧ (A.2.2.1 = 1 ∨ A.2.2.1 = -1) ∧ det6 A = A.2.2.1 := by
  obtain ⟨k1, k2⟩ := h1.hub h hh
  have hf := find_map (q := nz) (f := im6 A) L (nz_im hA)
  rw [hh] at hf
  obtain ⟨k3, k4⟩ := h2.hub _ hf
  obtain ⟨⟨a, b, c⟩, ⟨d, f, g⟩⟩ := A
  obtain ⟨x, y, z⟩ := h
  simp only [On, det6] at hA ⊢
  dsimp only at k1 k2
  subst k2
  simp only [im6, imT] at k3 k4
  have b0 : b = 0 := by
    have : x * b = 0 := by omega
    rcases Int.mul_eq_zero.mp this with w | w
    · omega
    · exact w
  subst b0
  have xa : 0 < x * a := by omega
  have a0 : 0 < a := by
    apply Classical.byContradiction
    intro n
    have := Int.mul_le_mul_of_nonneg_left (show a ≤ 0 by omega) (show 0 ≤ x by omega)
    omega
  have hd : a * f = 1 ∨ a * f = -1 := by
    rcases hA with h | h
    · left; omega
    · right; omega
  have a1 : a = 1 := by
    have hab : a.natAbs * f.natAbs = 1 := by
      rw [← Int.natAbs_mul]
      rcases hd with h | h <;> rw [h] <;> rfl
    have := Nat.eq_one_of_mul_eq_one_right hab
    omega
  subst a1
  refine ⟨rfl, rfl, by omega, by omega⟩
theorem pren_two {L : List T3} {A : T6} (hA : On A) (h1 : PreN L) (h2 : PreN (L.map (im6 A))) {s : T3} (hs : L.find? ny = some s) : L.map (im6 A) = L := by
  have hn : ∃ h, L.find? nz = some h := by
    cases e : L.find? nz with
    | none => rw [find_sub0 ny_nz e] at hs; cases hs
    | some h => exact ⟨h, rfl⟩
  obtain ⟨h, hh⟩ := hn
  obtain ⟨e1, e2, e3, e4⟩ := pren_lin hA h1.ends h2.ends hh
  obtain ⟨k1, k2⟩ := h1.ends.hub h hh
  obtain ⟨k5, k6⟩ := h1.hub h hh
  have hf := find_map (q := nz) (f := im6 A) L (nz_im hA)
  rw [hh] at hf
  obtain ⟨k7, k8⟩ := h2.hub _ hf
  have hny : ∀ p, ny (im6 A p) = ny p := fun p => by
    obtain ⟨⟨a, b, c⟩, ⟨d, f, g⟩⟩ := A
    obtain ⟨x, y, z⟩ := p
    dsimp only at e1 e2 e3
    subst e1 e2
    unfold ny
    have : (im6 ((1, 0, c), (d, f, g)) (x, y, z)).2.1 = 0 ↔ y = 0 := by
      simp only [im6, imT]
      rcases e3 with rfl | rfl <;> omega
    rw [decide_eq_decide.mpr this]
  have hg := find_map (q := ny) (f := im6 A) L hny
  rw [hs] at hg
  obtain ⟨m1, m2, m3⟩ := h1.ends.sec s hs
  obtain ⟨m4, m5⟩ := h1.sec s hs
  obtain ⟨m6, m7, m8⟩ := h2.ends.sec _ hg
  obtain ⟨m9, m10⟩ := h2.sec _ hg
  have hid : A = id6 := by
    obtain ⟨⟨a, b, c⟩, ⟨d, f, g⟩⟩ := A
    obtain ⟨x, y, z⟩ := h
    obtain ⟨u, v, w⟩ := s
    dsimp only at e1 e2 e3 k1 k2 k5 k6 m1 m2 m3 m4 m5
    subst e1 e2 k2
    simp only [im6, imT] at k7 k8 m6 m7 m8 m9 m10
    have f1 : f = 1 := by
      rcases e3 with rfl | rfl
      · rfl
      · omega
    subst f1
    have d0 : d = 0 := uniq0 (x := v) (a := u) (b := u * 1 + v * d) m1 (by omega) m2 m3 (by omega) (by omega)
    subst d0
    have c0 : c = 0 := uniq0 (x := x) (a := z) (b := z + x * c) k1 rfl k5 k6 (by grind) (by grind)
    subst c0
    have g0 : g = 0 := uniq0 (x := v) (a := w) (b := w + v * g) m1 rfl m4 m5 (by grind) (by grind)
    subst g0
    rfl
  rw [hid, map_id6]
theorem all_y0 {L : List T3} (h : L.find? ny = none) : ∀ p ∈ L, p.2.1 = 0 := fun p hp => by
  have := List.find?_eq_none.mp h p hp
  rw [ny_t] at this
  exact Classical.byContradiction this
theorem all_z0 {L : List T3} (h : L.find? nz = none) : ∀ p ∈ L, p.1 = 0 ∧ p.2.1 = 0 := fun p hp => by
  have := List.find?_eq_none.mp h p hp
  rw [nz_t] at this
  exact Classical.byContradiction this
theorem im_flat {A : T6} (e1 : A.1.1 = 1) (e2 : A.1.2.1 = 0) (p : T3) (hp : p.2.1 = 0) : im6 A p = (p.1, 0, p.1 * A.1.2.2 + det6 A * p.2.2) := by
  obtain ⟨⟨a, b, c⟩, ⟨d, f, g⟩⟩ := A
  obtain ⟨x, y, z⟩ := p
  dsimp only at e1 e2 hp
  subst e1 e2 hp
  simp only [im6, imT, det6, Prod.mk.injEq]
  refine ⟨by omega, by omega, by grind⟩
theorem im_zero {A : T6} (p : T3) (h1 : p.1 = 0) (h2 : p.2.1 = 0) : im6 A p = (0, 0, det6 A * p.2.2) := by
  obtain ⟨⟨a, b, c⟩, ⟨d, f, g⟩⟩ := A
  obtain ⟨x, y, z⟩ := p
  dsimp only at h1 h2
  subst h1 h2
  have hh : ((0 : Int) * (0 - 1)).fdiv 2 = 0 := by decide
  simp only [im6, imT, det6, Prod.mk.injEq, hh]
  refine ⟨by omega, by omega, by grind⟩
theorem pren_same {L : List T3} {A : T6} (hd : det6 A = 1) (h1 : PreN L) (h2 : PreN (L.map (im6 A))) (hs : L.find? ny = none) : L.map (im6 A) = L := by
  have hA : On A := .inl hd
  have fx : ∀ p ∈ L, im6 A p = p := by
    cases hh : L.find? nz with
    | none =>
      intro p hp
      obtain ⟨z1, z2⟩ := all_z0 hh p hp
      rw [im_zero p z1 z2, hd]
      obtain ⟨x, y, z⟩ := p
      dsimp only at z1 z2
      subst z1 z2
      simp
    | some h =>
      obtain ⟨e1, e2, e3, e4⟩ := pren_lin hA h1.ends h2.ends hh
      obtain ⟨k1, k2⟩ := h1.ends.hub h hh
      obtain ⟨k5, k6⟩ := h1.hub h hh
      have hf := find_map (q := nz) (f := im6 A) L (nz_im hA)
      rw [hh] at hf
      have k7 := h2.hub _ hf
      rw [im_flat e1 e2 h k2, hd] at k7
      dsimp only at k7
      have c0 : A.1.2.2 = 0 := uniq0 (x := h.1) (a := h.2.2) (b := h.1 * A.1.2.2 + 1 * h.2.2) k1 (by omega) k5 k6 k7.1 k7.2
      intro p hp
      have z2 := all_y0 hs p hp
      rw [im_flat e1 e2 p z2, hd, c0]
      obtain ⟨x, y, z⟩ := p
      dsimp only at z2
      subst z2
      simp
  rw [List.map_congr_left fx, List.map_id']
theorem pren_mir {L : List T3} {A C : T6} (ha : det6 A = -1) (hc : det6 C = -1) (h1 : PreN L) (h2 : PreN (L.map (im6 A))) (h3 : PreN (L.map (im6 C))) (hs : L.find? ny = none) : L.map (im6 A) = L.map (im6 C) := by
  have hA : On A := .inr ha
  have hC : On C := .inr hc
  apply List.map_congr_left
  cases hh : L.find? nz with
  | none =>
    intro p hp
    obtain ⟨z1, z2⟩ := all_z0 hh p hp
    rw [im_zero p z1 z2, im_zero p z1 z2, ha, hc]
  | some h =>
    obtain ⟨e1, e2, e3, e4⟩ := pren_lin hA h1.ends h2.ends hh
    obtain ⟨g1, g2, g3, g4⟩ := pren_lin hC h1.ends h3.ends hh
    obtain ⟨k1, k2⟩ := h1.ends.hub h hh
    have hf := find_map (q := nz) (f := im6 A) L (nz_im hA)
    have hg := find_map (q := nz) (f := im6 C) L (nz_im hC)
    rw [hh] at hf hg
    have k7 := h2.hub _ hf
    have k8 := h3.hub _ hg
    rw [im_flat e1 e2 h k2, ha] at k7
    rw [im_flat g1 g2 h k2, hc] at k8
    dsimp only at k7 k8
    have c0 : C.1.2.2 - A.1.2.2 = 0 := uniq0 (x := h.1) (a := h.1 * A.1.2.2 + -1 * h.2.2) (b := h.1 * C.1.2.2 + -1 * h.2.2) k1 (by grind) k7.1 k7.2 k8.1 k8.2
    have c1 : C.1.2.2 = A.1.2.2 := by omega
    intro p hp
    have z2 := all_y0 hs p hp
    rw [im_flat e1 e2 p z2, im_flat g1 g2 p z2, ha, hc, c1]
end
end AW

set_option linter.all false
set_option maxRecDepth 100000
set_option maxHeartbeats 8000000
namespace AW
open PySem PySem.Spec PyProof.Rows L2
variable [Tbs]
section
variable {P : Program} {w : World} {K : PySem.W.Frag} {mg : Str → Option Value} {base : Heap}
/-! ### the least of the two forms -/
abbrev kD (L : List T3) : D := .tup (L.map tD)
def ltK (p q : List T3) : Bool := PySem.W.dataLt (py (kD p)) (py (kD q))
theorem pyL_map (L : List T3) : pyL (L.map tD) = L.map fun p => PyData.tuple [.int p.1, .int p.2.1, .int p.2.2] := by
  induction L with
  | nil => rfl
  | cons a r ih => show (PyData.tuple _ :: pyL (r.map tD)) = _; rw [ih]; rfl
theorem py_kD (L : List T3) : py (kD L) = .tuple (L.map fun p => PyData.tuple [.int p.1, .int p.2.1, .int p.2.2]) := by
  show PyData.tuple (pyL (L.map tD)) = _
  rw [pyL_map]
def toks (L : List T3) : List (Int ⊕ List Nat) := PySem.W.keyToksAll (L.map fun p => PyData.tuple [.int p.1, .int p.2.1, .int p.2.2])
theorem toks_cons (p : T3) (L : List T3) : toks (p :: L) = .inl 1 :: .inl 1 :: .inl p.1 :: .inl 1 :: .inl p.2.1 :: .inl 1 :: .inl p.2.2 :: .inl 0 :: toks L := by
  unfold toks
  rw [List.map_cons, PySem.W.toks_all_cons]
  simp [PySem.W.keyToks, PySem.W.keyToksAll]
theorem toks_nil : toks [] = [.inl 0] := by
  unfold toks
  simp [PySem.W.keyToksAll]
theorem toks_inj : ∀ {p q : List T3}, toks p = toks q → p = q
  | [], [], _ => rfl
  | [], b :: s, h => by rw [toks_nil, toks_cons] at h; injection h with h1 h2; injection h1 with h1; exact absurd h1 (by decide)
  | a :: r, [], h => by rw [toks_nil, toks_cons] at h; injection h with h1 h2; injection h1 with h1; exact absurd h1 (by decide)
  | (x, y, z) :: r, (u, v, w) :: s, h => by
    rw [toks_cons, toks_cons] at h
    simp only [List.cons.injEq, Sum.inl.injEq, true_and] at h
    obtain ⟨rfl, rfl, rfl, h⟩ := h
    rw [toks_inj h]
theorem ltK_toks (p q : List T3) : ltK p q = PyProof.Rows.lexLt PyProof.Rows.itemOrd (toks p) (toks q) := by
  unfold ltK
  rw [py_kD, py_kD, PySem.W.dataLt_tuple]
  rfl
theorem ltK_irrefl (p : List T3) : ltK p p = false := by rw [ltK_toks]; exact PyProof.Rows.lex_irrefl _
theorem ltK_asymm {p q : List T3} (h : ltK p q = true) : ltK q p = false := by
  cases e : ltK q p with
  | false => rfl
  | true =>
    rw [ltK_toks] at h e
    have := PyProof.Rows.lex_trans _ _ _ h e
    rw [PyProof.Rows.lex_irrefl] at this
    cases this
theorem ltK_total {p q : List T3} (h : ltK p q = false) (g : ltK q p = false) : p = q := by
  rw [ltK_toks] at h g
  exact toks_inj (PyProof.Rows.lex_total _ _ h g)
theorem alike_kD : ∀ {p q : List T3}, p.length = q.length → PySem.W.alikeAll (pyL (p.map tD)) (pyL (q.map tD)) = true
  | [], [], _ => rfl
  | a :: r, b :: s, h => by
    have : r.length = s.length := by simpa using h
    show (PySem.W.alike (py (tD a)) (py (tD b)) && PySem.W.alikeAll (pyL (r.map tD)) (pyL (s.map tD))) = true
    rw [alike_kD this]
    rfl
theorem dep_kD (L : List T3) : (py (kD L)).depth ≤ 4 := by
  rw [py_kD]
  have h : ∀ L : List T3, PyData.depthAll (L.map fun p => PyData.tuple [.int p.1, .int p.2.1, .int p.2.2]) ≤ 3 := by
    intro L
    induction L with
    | nil => simp [PyData.depthAll]
    | cons a r ih =>
      simp only [List.map_cons, PyData.depthAll, PyData.depth]
      omega
  simp only [PyData.depth]
  have := h L
  omega
theorem ok_kD (L : List T3) : pyOk (kD L) = true := by
  show pyOkL (L.map tD) = true
  induction L with
  | nil => rfl
  | cons a r ih => show (pyOk (tD a) && pyOkL (r.map tD)) = true; rw [ih]; rfl
theorem lay_kD (L : List T3) : (py (kD L)).canLay0 = true := by
  rw [py_kD]
  have h : ∀ L : List T3, PyData.canLayAll0 (L.map fun p => PyData.tuple [.int p.1, .int p.2.1, .int p.2.2]) = true := by
    intro L
    induction L with
    | nil => rfl
    | cons a r ih => rw [List.map_cons]; simp only [PyData.canLayAll0, PyData.canLay0, ih, Bool.and_true, Bool.true_and]
  simpa [PyData.canLay0] using h L
theorem sh_kD (L : List T3) : SeqAt.shaped (py (kD L)) = true := shaped_of (lay_kD L) (decide_eq_true (by have := dep_kD L; omega))
theorem eqv_kD (p q : List T3) : PyData.eqv (py (kD p)) (py (kD q)) = decide (p = q) := by
  by_cases h : p = q
  · subst h
    rw [eqv_self, decide_eq_true rfl]
  · rw [decide_eq_false h, Bool.eq_false_iff]
    intro z
    apply h
    have : ∀ p q : List T3, PyData.eqvAll (pyL (p.map tD)) (pyL (q.map tD)) = true → p = q := by
      intro p
      induction p with
      | nil =>
        intro q h
        cases q with
        | nil => rfl
        | cons b s => simp [pyL, PyData.eqvAll] at h
      | cons a r ih =>
        intro q h
        cases q with
        | nil => simp [pyL, PyData.eqvAll] at h
        | cons b s =>
          have h : (PyData.eqv (py (tD a)) (py (tD b)) && PyData.eqvAll (pyL (r.map tD)) (pyL (s.map tD))) = true := h
          rw [Bool.and_eq_true] at h
          rw [ih s h.2]
          have h1 := h.1
          rw [eqv_t3] at h1
          obtain ⟨e1, e2, e3⟩ := of_decide_eq_true h1
          rw [show a = b from Prod.ext e1 (Prod.ext e2 e3)]
    exact this p q z
/-! ### keys -/
def Cand (L p : List T3) : Prop := PreN p ∧ ∃ A, On A ∧ p = L.map (im6 A)
theorem cand_im {A : T6} (hA : On A) {L p : List T3} : Cand (L.map (im6 A)) p ↔ Cand L p := by
  constructor
  · rintro ⟨h, C, hC, e⟩
    exact ⟨h, cm6 C A, on_cm hC hA, by rw [e, map_cm]⟩
  · rintro ⟨h, C, hC, e⟩
    refine ⟨h, cm6 C (inv6 A), on_cm hC (on_inv hA), ?_⟩
    rw [map_cm, cm_assoc, cm_inv hA, cm_id]
    exact e
theorem cand_rel {L p q : List T3} {A C : T6} (hA : On A) (hp : p = L.map (im6 A)) (hq : q = L.map (im6 C)) : q = p.map (im6 (cm6 C (inv6 A))) := by
  rw [hp, map_cm, cm_assoc, cm_inv hA, cm_id]
  exact hq
def Key (L p : List T3) : Prop := Cand L p ∧ ∀ q, Cand L q → ltK q p = false
theorem key_uniq {L p q : List T3} (h : Key L p) (g : Key L q) : p = q := ltK_total (g.2 p h.1) (h.2 q g.1)
theorem key_im {A : T6} (hA : On A) {L p : List T3} (h : Key L p) : Key (L.map (im6 A)) p := ⟨(cand_im hA).mpr h.1, fun q hq => h.2 q ((cand_im hA).mp hq)⟩
theorem key_alike {L M p q : List T3} (h : Key L p) (g : Key M q) : p = q ↔ ∃ A, On A ∧ M = L.map (im6 A) := by
  constructor
  · intro e
    obtain ⟨_, A, hA, eA⟩ := h.1
    obtain ⟨_, C, hC, eC⟩ := g.1
    refine ⟨cm6 (inv6 C) A, on_cm (on_inv hC) hA, ?_⟩
    rw [← map_cm, ← eA, e, eC, map_cm, cm_inv hC, map_id6]
  · rintro ⟨A, hA, rfl⟩
    exact key_uniq (key_im hA h) g
theorem key_one {L p : List T3} (h : Cand L p) {s : T3} (hs : p.find? ny = some s) : Key L p := by
  refine ⟨h, fun q hq => ?_⟩
  obtain ⟨h1, A, hA, eA⟩ := h
  obtain ⟨g1, C, hC, eC⟩ := hq
  have e := cand_rel hA eA eC
  have : q = p := by
    rw [e]
    exact pren_two (on_cm hC (on_inv hA)) h1 (by rw [← e]; exact g1) hs
  rw [this]
  exact ltK_irrefl p
theorem key_two {L p q : List T3} {A C : T6} (hp : PreN p) (hq : PreN q) (dA : det6 A = 1) (dC : det6 C = -1) (eA : p = L.map (im6 A)) (eC : q = L.map (im6 C)) (hs : p.find? ny = none) : Key L (if ltK q p = true then q else p) := by
  have hA : On A := .inl dA
  have hC : On C := .inr dC
  have all : ∀ r, Cand L r → r = p ∨ r = q := by
    rintro r ⟨g1, F, hF, eF⟩
    have e := cand_rel hA eA eF
    have e2 := cand_rel hA eA eC
    rcases hF with dF | dF
    · left
      rw [e]
      refine pren_same ?_ hp (by rw [← e]; exact g1) hs
      rw [det_cm, det_inv hA, dF, dA]
      rfl
    · right
      rw [e, e2]
      refine pren_mir ?_ ?_ hp (by rw [← e]; exact g1) (by rw [← e2]; exact hq) hs
      · rw [det_cm, det_inv hA, dF, dA]; rfl
      · rw [det_cm, det_inv hA, dC, dA]; rfl
  cases e : ltK q p with
  | true =>
    rw [if_pos rfl]
    refine ⟨⟨hq, C, hC, eC⟩, fun r hr => ?_⟩
    rcases all r hr with rfl | rfl
    · exact ltK_asymm e
    · exact ltK_irrefl _
  | false =>
    rw [if_neg Bool.false_ne_true]
    refine ⟨⟨hp, A, hA, eA⟩, fun r hr => ?_⟩
    rcases all r hr with rfl | rfl
    · exact ltK_irrefl _
    · exact e
/-! ### areas put low -/
def shx (t : Int) (p : T3) : T3 := (p.1, p.2.1, p.2.2 + t * p.1)
def shy (t : Int) (p : T3) : T3 := (p.1, p.2.1, p.2.2 + t * p.2.1)
def vtx (L : List T3) : Int := match L.find? nx with
  | some p => -(p.2.2.fdiv p.1)
  | none => 0
def vty (L : List T3) : Int := match L.find? ny with
  | some p => -(p.2.2.fdiv p.2.1)
  | none => 0
def lift6 (t u : Int) (A : T6) : T6 := (shy u (shx t A.1), shy u (shx t A.2))
theorem lift_im (t u : Int) (A : T6) (p : T3) : im6 (lift6 t u A) p = shy u (shx t (im6 A p)) := by
  obtain ⟨⟨a, b, c⟩, ⟨d, f, g⟩⟩ := A
  obtain ⟨x, y, z⟩ := p
  simp only [im6, lift6, shx, shy, imT, Prod.mk.injEq]
  refine ⟨trivial, trivial, ?_⟩
  generalize (x * (x - 1)).fdiv 2 = c1
  generalize (y * (y - 1)).fdiv 2 = c2
  grind
theorem det_lift (t u : Int) (A : T6) : det6 (lift6 t u A) = det6 A := rfl
def sett (L : List T3) : List T3 := (L.map (shx (vtx L))).map (shy (vty (L.map (shx (vtx L)))))
theorem sett_im (L : List T3) (A : T6) : sett (L.map (im6 A)) = L.map (im6 (lift6 (vtx (L.map (im6 A))) (vty ((L.map (im6 A)).map (shx (vtx (L.map (im6 A)))))) A)) := by
  unfold sett
  rw [List.map_map, List.map_map]
  apply List.map_congr_left
  intro p _
  rw [lift_im]
  rfl
theorem fd_low {a x : Int} (hx : 0 < x) : 0 ≤ a + -(a.fdiv x) * x ∧ a + -(a.fdiv x) * x < x := by
  have h1 := Int.mul_fdiv_add_fmod a x
  have h2 := Int.fmod_nonneg_of_pos a hx
  have h3 := Int.fmod_lt_of_pos a hx
  have h4 : -(a.fdiv x) * x = -(x * a.fdiv x) := by rw [Int.neg_mul, Int.mul_comm]
  rw [h4]
  omega
theorem sett_pre {L : List T3} (h : EndN L) : PreN (sett L) ∧ (sett L).find? ny = (L.find? ny).map (fun p => shy (vty (L.map (shx (vtx L)))) (shx (vtx L) p)) := by
  have f1 : ∀ (q : T3 → Bool) (t u : Int), (∀ (p : T3) (z : Int), q (p.1, p.2.1, z) = q p) → ((L.map (shx t)).map (shy u)).find? q = (L.find? q).map fun p => shy u (shx t p) := fun q t u hq => by
    rw [List.map_map]
    rw [find_map (q := q) (q2 := q) (f := shy u ∘ shx t) L (fun p => by
      show q (p.1, p.2.1, _) = q p
      exact hq p _)]
    rfl
  have f2 : ∀ (q : T3 → Bool) (t : Int), (∀ (p : T3) (z : Int), q (p.1, p.2.1, z) = q p) → (L.map (shx t)).find? q = (L.find? q).map (shx t) := fun q t hq => find_map (q := q) (q2 := q) L (fun p => hq p _)
  have gz : ∀ (p : T3) (z : Int), nz (p.1, p.2.1, z) = nz p := fun _ _ => rfl
  have gy : ∀ (p : T3) (z : Int), ny (p.1, p.2.1, z) = ny p := fun _ _ => rfl
  have e1 := f1 nz (vtx L) (vty (L.map (shx (vtx L)))) gz
  have e2 := f1 ny (vtx L) (vty (L.map (shx (vtx L)))) gy
  refine ⟨⟨⟨fun p hp => ?_, fun p hp => ?_⟩, fun p hp => ?_, fun p hp => ?_⟩, e2⟩
  · rw [show (sett L).find? nz = _ from e1] at hp
    obtain ⟨z, hz, rfl⟩ := Option.map_eq_some_iff.mp hp
    exact h.hub z hz
  · rw [show (sett L).find? ny = _ from e2] at hp
    obtain ⟨z, hz, rfl⟩ := Option.map_eq_some_iff.mp hp
    exact h.sec z hz
  · rw [show (sett L).find? nz = _ from e1] at hp
    obtain ⟨z, hz, rfl⟩ := Option.map_eq_some_iff.mp hp
    obtain ⟨k1, k2⟩ := h.hub z hz
    have hx : L.find? nx = some z := find_sub nx_nz hz (nx_t.mpr (by omega))
    have ev : vtx L = -(z.2.2.fdiv z.1) := by unfold vtx; rw [hx]
    have low := fd_low (a := z.2.2) k1
    show 0 ≤ z.2.2 + vtx L * z.1 + _ * z.2.1 ∧ z.2.2 + vtx L * z.1 + _ * z.2.1 < z.1
    rw [k2, ev, Int.mul_zero, Int.add_zero]
    exact low
  · rw [show (sett L).find? ny = _ from e2] at hp
    obtain ⟨z, hz, rfl⟩ := Option.map_eq_some_iff.mp hp
    obtain ⟨k1, k2, k3⟩ := h.sec z hz
    have hy := f2 ny (vtx L) gy
    rw [hz] at hy
    have ev : vty (L.map (shx (vtx L))) = -((shx (vtx L) z).2.2.fdiv z.2.1) := by
      unfold vty
      rw [hy]
      rfl
    have low := fd_low (a := (shx (vtx L) z).2.2) k1
    show 0 ≤ (shx (vtx L) z).2.2 + vty (L.map (shx (vtx L))) * z.2.1 ∧ (shx (vtx L) z).2.2 + vty (L.map (shx (vtx L))) * z.2.1 < z.2.1
    rw [ev]
    exact low
/-! ### the ends put in their place -/
def Lev (L : List T3) (As : List T6) : Prop := (∃ A s, As = [A] ∧ On A ∧ EndN (L.map (im6 A)) ∧ (L.map (im6 A)).find? ny = some s) ∨
  (∃ A C, As = [A, C] ∧ det6 A = 1 ∧ det6 C = -1 ∧ EndN (L.map (im6 A)) ∧ EndN (L.map (im6 C)) ∧ (L.map (im6 A)).find? ny = none)
theorem lev_none {L : List T3} (h : L.find? nz = none) : Lev L [((1, 0, 0), (0, 1, 0)), ((1, 0, 0), (0, -1, 0))] := by
  have en : ∀ A : T6, On A → EndN (L.map (im6 A)) ∧ (L.map (im6 A)).find? ny = none := fun A hA => by
    have e := find_map (q := nz) (f := im6 A) L (nz_im hA)
    rw [h] at e
    refine ⟨⟨fun z hz => ?_, fun z hz => ?_⟩, find_sub0 ny_nz e⟩
    · rw [e] at hz; cases hz
    · rw [find_sub0 ny_nz e] at hz; cases hz
  exact .inr ⟨_, _, rfl, rfl, rfl, (en _ (.inl rfl)).1, (en _ (.inr rfl)).1, (en _ (.inl rfl)).2⟩
theorem lev_line {L : List T3} {hb : T3} {a b c v w : Int} (hf : L.find? nz = some hb) (hc : 0 < c) (e : a * hb.1 + b * hb.2.1 = c) (ev : -hb.2.1 = c * v) (ew : hb.1 = c * w) (ht : ∀ p ∈ L, nz p = true → hb.1 * p.2.1 - p.1 * hb.2.1 = 0) : Lev L [((a, v, 0), (b, w, 0)), ((a, -v, 0), (b, -w, 0))] := by
  have dd : a * w - b * v = 1 := by
    apply Int.eq_of_mul_eq_mul_left (show c ≠ 0 by omega)
    grind
  have y0 : ∀ p ∈ L, p.1 * v + p.2.1 * w = 0 := fun p hp => by
    apply Int.eq_of_mul_eq_mul_left (show c ≠ 0 by omega)
    cases hn : nz p with
    | true =>
      have := ht p hp hn
      grind
    | false =>
      have : ¬ ¬ (p.1 = 0 ∧ p.2.1 = 0) := fun z => by rw [nz_t.mpr z] at hn; cases hn
      have := Classical.not_not.mp this
      rw [this.1, this.2]
      simp
  have en : ∀ σ : Int, (σ = 1 ∨ σ = -1) → EndN (L.map (im6 ((a, σ * v, 0), (b, σ * w, 0)))) ∧ (L.map (im6 ((a, σ * v, 0), (b, σ * w, 0)))).find? ny = none := fun σ hσ => by
    have hA : On ((a, σ * v, 0), (b, σ * w, 0)) := by
      unfold On
      simp only [det6]
      rcases hσ with rfl | rfl
      · left; grind
      · right; grind
    have hy : (L.map (im6 ((a, σ * v, 0), (b, σ * w, 0)))).find? ny = none := by
      rw [List.find?_eq_none]
      intro z hz
      obtain ⟨p, hp, rfl⟩ := List.mem_map.mp hz
      rw [ny_t]
      have := y0 p hp
      simp only [im6, imT]
      intro n
      apply n
      rcases hσ with rfl | rfl <;> grind
    have e2 := find_map (q := nz) (f := im6 ((a, σ * v, 0), (b, σ * w, 0))) L (nz_im hA)
    rw [hf] at e2
    refine ⟨⟨fun z hz => ?_, fun z hz => ?_⟩, hy⟩
    · rw [e2] at hz
      cases hz
      have hm := List.mem_of_find?_eq_some hf
      have := y0 hb hm
      simp only [im6, imT]
      constructor
      · have : hb.1 * a + hb.2.1 * b = c := by grind
        omega
      · rcases hσ with rfl | rfl <;> grind
    · rw [hy] at hz; cases hz
  have k1 := en 1 (.inl rfl)
  have k2 := en (-1) (.inr rfl)
  simp only [Int.one_mul, Int.neg_mul] at k1 k2
  refine .inr ⟨_, _, rfl, dd, ?_, k1.1, k2.1, k1.2⟩
  simp only [det6]
  grind
theorem lev_two {L : List T3} {hb sc : T3} {a b c v w k : Int} (hf : L.find? nz = some hb) (hs : L.find? (fun p => nz p && !decide (hb.1 * p.2.1 - p.1 * hb.2.1 = 0)) = some sc) (hc : 0 < c) (e : a * hb.1 + b * hb.2.1 = c) (ev : -hb.2.1 = c * v ∨ hb.2.1 = c * v) (ew : hb.1 = c * w ∨ -hb.1 = c * w) (same : (-hb.2.1 = c * v ∧ hb.1 = c * w) ∨ (hb.2.1 = c * v ∧ -hb.1 = c * w)) (hh : 0 < sc.1 * v + sc.2.1 * w)
    (hk : 0 ≤ sc.1 * a + sc.2.1 * b - k * (sc.1 * v + sc.2.1 * w)) (hk2 : sc.1 * a + sc.2.1 * b - k * (sc.1 * v + sc.2.1 * w) < sc.1 * v + sc.2.1 * w) : Lev L [((a - k * v, v, 0), (b - k * w, w, 0))] := by
  have cz : c ≠ 0 := by omega
  have hA : On ((a - k * v, v, 0), (b - k * w, w, 0)) := by
    unfold On
    simp only [det6]
    rcases same with ⟨s1, s2⟩ | ⟨s1, s2⟩
    · left
      apply Int.eq_of_mul_eq_mul_left cz
      grind
    · right
      apply Int.eq_of_mul_eq_mul_left cz
      grind
  have hny : ∀ p, ny (im6 ((a - k * v, v, 0), (b - k * w, w, 0)) p) = (nz p && !decide (hb.1 * p.2.1 - p.1 * hb.2.1 = 0)) := fun p => by
    have e1 : (im6 ((a - k * v, v, 0), (b - k * w, w, 0)) p).2.1 = 0 ↔ hb.1 * p.2.1 - p.1 * hb.2.1 = 0 := by
      simp only [im6, imT]
      constructor
      · intro h
        rcases same with ⟨s1, s2⟩ | ⟨s1, s2⟩
        · have : hb.1 * p.2.1 - p.1 * hb.2.1 = c * (p.1 * v + p.2.1 * w) := by grind
          rw [this, h, Int.mul_zero]
        · have : hb.1 * p.2.1 - p.1 * hb.2.1 = -c * (p.1 * v + p.2.1 * w) := by grind
          rw [this, h, Int.mul_zero]
      · intro h
        apply Int.eq_of_mul_eq_mul_left cz
        rcases same with ⟨s1, s2⟩ | ⟨s1, s2⟩ <;> grind
    unfold ny
    rw [decide_eq_decide.mpr e1]
    cases hn : nz p with
    | true => rfl
    | false =>
      have : ¬ ¬ (p.1 = 0 ∧ p.2.1 = 0) := fun z => by rw [nz_t.mpr z] at hn; cases hn
      have := Classical.not_not.mp this
      rw [this.1, this.2]
      simp
  have e2 := find_map (q := nz) (f := im6 ((a - k * v, v, 0), (b - k * w, w, 0))) L (nz_im hA)
  have e3 := find_map (q := ny) (f := im6 ((a - k * v, v, 0), (b - k * w, w, 0))) L hny
  rw [hf] at e2
  rw [hs] at e3
  refine .inl ⟨_, _, rfl, hA, ⟨fun z hz => ?_, fun z hz => ?_⟩, e3⟩
  · rw [e2] at hz
    cases hz
    have hv : hb.1 * v + hb.2.1 * w = 0 := by
      apply Int.eq_of_mul_eq_mul_left cz
      rcases same with ⟨s1, s2⟩ | ⟨s1, s2⟩ <;> grind
    simp only [im6, imT]
    refine ⟨?_, hv⟩
    have : hb.1 * (a - k * v) + hb.2.1 * (b - k * w) = c := by grind
    omega
  · rw [e3] at hz
    cases hz
    simp only [im6, imT]
    have : sc.1 * (a - k * v) + sc.2.1 * (b - k * w) = sc.1 * a + sc.2.1 * b - k * (sc.1 * v + sc.2.1 * w) := by grind
    omega
/-- what the forms of a list come to -/
theorem lev_key1 {L : List T3} {A : T6} (h : Lev L [A]) : Key L (sett (L.map (im6 A))) := by
  rcases h with ⟨A', s, e, hA, hE, hs⟩ | ⟨A', C, e, _⟩
  · cases e
    obtain ⟨p1, p2⟩ := sett_pre hE
    rw [hs] at p2
    exact key_one ⟨p1, _, (by unfold On; rw [det_lift]; exact hA), sett_im L A⟩ p2
  · cases e
theorem lev_key2 {L : List T3} {A C : T6} (h : Lev L [A, C]) : Key L (if ltK (sett (L.map (im6 C))) (sett (L.map (im6 A))) = true then sett (L.map (im6 C)) else sett (L.map (im6 A))) := by
  rcases h with ⟨A', s, e, _⟩ | ⟨A', C', e, dA, dC, hA, hC, hn⟩
  · cases e
  · cases e
    obtain ⟨p1, p2⟩ := sett_pre hA
    obtain ⟨q1, _⟩ := sett_pre hC
    rw [hn] at p2
    exact key_two p1 q1 (A := lift6 _ _ A) (C := lift6 _ _ C) dA dC (sett_im L A) (sett_im L C) p2
end
end AW

set_option linter.all false
set_option maxRecDepth 100000
set_option maxHeartbeats 8000000
namespace AW
open PySem PySem.Spec PyProof.Rows L2
variable [Tbs]
section
variable {P : Program} {w : World} {K : PySem.W.Frag} {mg : Str → Option Value} {base : Heap}
theorem find_at {L : List T3} {q : T3 → Bool} {i : Nat} {p : T3} (hp : L[i]? = some p) (hq : q p = true) (hz : ∀ z ∈ L.take i, q z = false) : L.find? q = some p := by
  have e : L = L.take i ++ p :: L.drop (i + 1) := by
    have hl := (List.getElem?_eq_some_iff.mp hp)
    obtain ⟨h1, h2⟩ := hl
    rw [← h2, ← List.drop_eq_getElem_cons h1, List.take_append_drop]
  rw [e, List.find?_append]
  have : (L.take i).find? q = none := by
    rw [List.find?_eq_none]
    intro y hy h
    rw [hz y hy] at h
    exact nomatch h
  rw [this, List.find?_cons, hq]
  rfl
def pr_view_times (T : Tx K mg) : Pr := fun ds B k e => ∃ (L : List T3) (c : Int), ds = [.lst (L.map tD), .int c] ∧ (∀ p ∈ L, Bd 8000 p.1 ∧ Bd 8000 p.2.1) ∧ ((c = 0 ∧ k (.int (vtx L)) B) ∨ (c = 1 ∧ k (.int (vty L)) B))
theorem okD_view_times (T : Tx K mg) : FnOk P w K mg base (L2.CX P w) 1 T.a_view_times T.d_view_times P_view_times (spD K (pr_view_times T)) := by
  refine T.F_view_times.okX sc_view_times (spD_len fun ds B k e h => by obtain ⟨L, c, rfl, hb, hk⟩ := h; rfl) (fun cdv A outer s H vs Q E hr h => ?_)
  obtain ⟨G, ds, B, k, e, hs, hR, ⟨L, c, rfl, hb, hk⟩, hK, hX⟩ := h
  refine ⟨_, (pss_cons (ps_for (passes_of rfl) rfl (pi_list (pv 0)) (pg_name (i := 2) sc_view_times.nd rfl (.inl rfl))
 (pss_one (ps_if (pt_cmpR op_ne (pe_ix ix_tup (pv 2) (pv 1) (fun _ _ => rfl)) pe_int (nomark _))
 (pss_one (ps_ret (pe_un un_neg (pe_op op_fdivG (pe_ix ix_tup (pv 2) pe_int (fun _ _ => rfl)) (pe_ix ix_tup (pv 2) (pv 1) (fun _ _ => rfl))))))
 pss_nil)))
 (pss_one (ps_ret pe_int))), run_body (ρ := [some (.lst (L.map tD)), some (.int c), none]) hs hR hK hX rfl ?_⟩
  rcases hk with ⟨rfl, hk⟩ | ⟨rfl, hk⟩
  · refine ws_cut (fun ρ' B' => (∃ o, ρ' = [some (.lst (L.map tD)), some (.int 0), o]) ∧ L.find? nx = none ∧ B = B') ?_ ?_
    · refine ws_for_list <| we_var rfl ⟨_, rfl, fun i ρ' B' => (∃ o, ρ' = [some (.lst (L.map tD)), some (.int 0), o]) ∧ (∀ p ∈ L.take i, nx p = false) ∧ B = B', ⟨⟨_, rfl⟩, (fun p hp => by simp at hp), rfl⟩, fun i d ρ' B' hd hI => ?_, fun ρ' B' hI => ?_⟩
      · obtain ⟨⟨o, rfl⟩, hz, rfl⟩ := hI
        rw [List.getElem?_map] at hd
        obtain ⟨p, hp, rfl⟩ := Option.map_eq_some_iff.mp hd
        have hm := List.mem_of_getElem? hp
        refine wg_name ?_
        refine ws_if <| wt_test <| we_op <| we_op <| we_var rfl <| we_var rfl <| ro_ixT rfl <| we_int <| ro_neI ⟨_, rfl, fun h1 => ?_, fun h1 => ?_⟩
        · have z := ne_of_dec h1
          have hf : L.find? nx = some p := find_at hp (nx_t.mpr z) hz
          have e : vtx L = -(p.2.2.fdiv p.1) := by unfold vtx; rw [hf]
          rw [e] at hk
          exact ws_ret <| we_neg <| we_op <| we_op <| we_var rfl <| we_int <| ro_ixT rfl <| we_op <| we_var rfl <| we_var rfl <| ro_ixT rfl <| ro_i (dvg z ((hb p hm).1.mono (by decide))) ⟨_, rfl, hk⟩
        · have z := eq_of_dec h1
          refine ws_next ⟨⟨_, rfl⟩, fun y hy => ?_, rfl⟩
          rw [List.take_add_one, hp] at hy
          rcases List.mem_append.mp hy with hy | hy
          · exact hz y hy
          · have : y = p := by simpa using hy
            subst this
            cases e : nx y with
            | false => rfl
            | true => exact absurd z (nx_t.mp e)
      · obtain ⟨⟨o, rfl⟩, hz, rfl⟩ := hI
        refine ⟨⟨_, rfl⟩, ?_, rfl⟩
        rw [List.find?_eq_none]
        intro y hy h
        rw [List.length_map, List.take_length] at hz
        rw [hz y hy] at h
        exact nomatch h
    rintro _ _ ⟨⟨o, rfl⟩, hn, rfl⟩
    have e : vtx L = 0 := by unfold vtx; rw [hn]
    rw [e] at hk
    exact ws_ret (we_int hk)
  · refine ws_cut (fun ρ' B' => (∃ o, ρ' = [some (.lst (L.map tD)), some (.int 1), o]) ∧ L.find? ny = none ∧ B = B') ?_ ?_
    · refine ws_for_list <| we_var rfl ⟨_, rfl, fun i ρ' B' => (∃ o, ρ' = [some (.lst (L.map tD)), some (.int 1), o]) ∧ (∀ p ∈ L.take i, ny p = false) ∧ B = B', ⟨⟨_, rfl⟩, (fun p hp => by simp at hp), rfl⟩, fun i d ρ' B' hd hI => ?_, fun ρ' B' hI => ?_⟩
      · obtain ⟨⟨o, rfl⟩, hz, rfl⟩ := hI
        rw [List.getElem?_map] at hd
        obtain ⟨p, hp, rfl⟩ := Option.map_eq_some_iff.mp hd
        have hm := List.mem_of_getElem? hp
        refine wg_name ?_
        refine ws_if <| wt_test <| we_op <| we_op <| we_var rfl <| we_var rfl <| ro_ixT rfl <| we_int <| ro_neI ⟨_, rfl, fun h1 => ?_, fun h1 => ?_⟩
        · have z := ne_of_dec h1
          have hf : L.find? ny = some p := find_at hp (ny_t.mpr z) hz
          have e : vty L = -(p.2.2.fdiv p.2.1) := by unfold vty; rw [hf]
          rw [e] at hk
          exact ws_ret <| we_neg <| we_op <| we_op <| we_var rfl <| we_int <| ro_ixT rfl <| we_op <| we_var rfl <| we_var rfl <| ro_ixT rfl <| ro_i (dvg z ((hb p hm).2.mono (by decide))) ⟨_, rfl, hk⟩
        · have z := eq_of_dec h1
          refine ws_next ⟨⟨_, rfl⟩, fun y hy => ?_, rfl⟩
          rw [List.take_add_one, hp] at hy
          rcases List.mem_append.mp hy with hy | hy
          · exact hz y hy
          · have : y = p := by simpa using hy
            subst this
            cases e : ny y with
            | false => rfl
            | true => exact absurd z (ny_t.mp e)
      · obtain ⟨⟨o, rfl⟩, hz, rfl⟩ := hI
        refine ⟨⟨_, rfl⟩, ?_, rfl⟩
        rw [List.find?_eq_none]
        intro y hy h
        rw [List.length_map, List.take_length] at hz
        rw [hz y hy] at h
        exact nomatch h
    rintro _ _ ⟨⟨o, rfl⟩, hn, rfl⟩
    have e : vty L = 0 := by unfold vty; rw [hn]
    rw [e] at hk
    exact ws_ret (we_int hk)

structure SzL (L : List T3) : Prop where
  len : L.length ≤ 8
  b : ∀ p ∈ L, Bd 135 p.1 ∧ Bd 135 p.2.1 ∧ Bd 330 p.2.2
structure SzC (c n : Nat) (A : T6) : Prop where
  p : Bd c A.1.1
  q : Bd c A.1.2.1
  s : Bd n A.1.2.2
  r : Bd c A.2.1
  t : Bd c A.2.2.1
  u : Bd n A.2.2.2
theorem SzC.mono {c s c' s' : Nat} {A : T6} (h : SzC c s A) (h1 : c ≤ c') (h2 : s ≤ s') : SzC c' s' A := ⟨h.p.mono h1, h.q.mono h1, h.s.mono h2, h.r.mono h1, h.t.mono h1, h.u.mono h2⟩
theorem SzC.sz {c s m : Nat} {A : T6} (h : SzC c s A) (h1 : c ≤ m) (h2 : s ≤ m) : Sz m A := ⟨h.p.mono h1, h.q.mono h1, h.s.mono h2, h.r.mono h1, h.t.mono h1, h.u.mono h2⟩
theorem im_bdg {c s k z M : Nat} {A : T6} {g : T3} (hA : SzC c s A) (hd : On A) (hx : Bd k g.1) (hy : Bd k g.2.1) (ha : Bd z g.2.2) (h0 : 1 ≤ k) (h1 : 2 * c + 2 * k + 1 ≤ M) (h2 : k + s ≤ M) (h3 : z ≤ M) :
    Bd (c + k + 1) (im6 A g).1 ∧ Bd (c + k + 1) (im6 A g).2.1 ∧ Bd (M + 4) (im6 A g).2.2 := by
  obtain ⟨⟨p, q, sA⟩, ⟨r, t, u⟩⟩ := A
  obtain ⟨x, y, a⟩ := g
  obtain ⟨hp, hq, hs, hr, ht, hu⟩ := hA
  dsimp only at hp hq hs hr ht hu hx hy ha
  have tri : ∀ {z : Int}, Bd k z → Bd (2 * k + 1) ((z * (z - 1)).fdiv 2) := fun {z} h => by
    have b := Bd.mul h (Bd.sub h (Bd.mono (Bd.lit (i := 1) 1 (by decide)) h0))
    exact (b.mono (by omega)).fdiv
  refine ⟨(Bd.add (Bd.mul hx hp) (Bd.mul hy hr)).mono (by omega), (Bd.add (Bd.mul hx hq) (Bd.mul hy ht)).mono (by omega), ?_⟩
  have a1 : Bd M (y * u) := (Bd.mul hy hu).mono (by omega)
  have a2 : Bd M (r * t * (y * (y - 1)).fdiv 2) := (Bd.mul (Bd.mul hr ht) (tri hy)).mono (by omega)
  have a3 : Bd M (x * sA) := (Bd.mul hx hs).mono (by omega)
  have a4 : Bd M (p * q * (x * (x - 1)).fdiv 2) := (Bd.mul (Bd.mul hp hq) (tri hx)).mono (by omega)
  have a5 : Bd M (y * r * x * q) := (Bd.mul (Bd.mul (Bd.mul hy hr) hx) hq).mono (by omega)
  have hd' : p * t - r * q = 1 ∨ p * t - r * q = -1 := hd
  have a6 : Bd M ((p * t - r * q) * a) := by
    rcases hd' with h | h <;> rw [h]
    · rw [Int.one_mul]; exact ha.mono h3
    · rw [Int.neg_mul, Int.one_mul]; exact ha.neg.mono h3
  exact Bd.add (Bd.add (Bd.add (Bd.add a1 a2) (Bd.add a3 a4)) (a5.mono (by omega))) (a6.mono (by omega))
theorem vtx_bd {L : List T3} {n : Nat} (h : ∀ p ∈ L, Bd n p.2.2) : Bd n (vtx L) := by
  unfold vtx
  cases e : L.find? nx with
  | none => exact bd0
  | some p => exact ((h p (List.mem_of_find?_eq_some e)).fdiv).neg
theorem vty_bd {L : List T3} {n : Nat} (h : ∀ p ∈ L, Bd n p.2.2) : Bd n (vty L) := by
  unfold vty
  cases e : L.find? ny with
  | none => exact bd0
  | some p => exact ((h p (List.mem_of_find?_eq_some e)).fdiv).neg
def pr_settled (T : Tx K mg) : Pr := fun ds B k e => ∃ (sb : Bool) (L : List T3) (A : T6), ds = [seqD sb (L.map (plT T)), plT T A.1, plT T A.2] ∧ SzL L ∧ On A ∧ SzC 410 0 A ∧ (SzC 410 2100 (lift6 (vtx (L.map (im6 A))) (vty ((L.map (im6 A)).map (shx (vtx (L.map (im6 A)))))) A) → k (.tup [kD (sett (L.map (im6 A))), plT T (lift6 (vtx (L.map (im6 A))) (vty ((L.map (im6 A)).map (shx (vtx (L.map (im6 A)))))) A).1, plT T (lift6 (vtx (L.map (im6 A))) (vty ((L.map (im6 A)).map (shx (vtx (L.map (im6 A)))))) A).2]) B)
theorem okD_settled (T : Tx K mg) : FnOk P w K mg base (L2.CX P w) 8 T.a_settled T.d_settled P_settled (spD K (pr_settled T)) := by
  refine T.F_settled.okX sc_settled (spD_len fun ds B k e h => by obtain ⟨sb, L, A, rfl, hL, hA, hS, hk⟩ := h; rfl) (fun cdv A outer s H vs Q E hr h => ?_)
  have G_Place_lifted : FnOk P w K mg base (L2.CX P w) 6 _ _ _ _ := okD_Place_lifted T
  have G_image_figures : FnOk P w K mg base (L2.CX P w) 7 _ _ _ _ := okD_image_figures T
  have G_view_times : FnOk P w K mg base (L2.CX P w) 1 _ _ _ _ := okD_view_times T
  obtain ⟨G, ds, B, k, e, hs, hR, ⟨sb, L, A, rfl, hL, hA, hS, hk⟩, hK, hX⟩ := h
  refine ⟨_, (pss_cons (ps_setLc (i := 3) (own := [("place", 6)]) (g := gName 6) (by rfl) sc_settled.nd rfl rfl (sw_true rfl rfl rfl (by decide +kernel)) (pi_or (pi_list (pv 0)) (pi_tup (pv 0))) (blkOk_by (own := [("place", 6)]) (N := N_settled) (sc := defScope s_settled) (by decide +kernel)) (fun _ _ _ _ _ => pg_name (i := 6) sc_settled.nd rfl (Or.inl rfl)) (fun _ _ _ _ _ => pts_nil) (fun _ _ _ _ _ => (pe_call G_image_figures (hr.mono (by decide)) (by rfl) T.g_image_figures T.F_image_figures.kp T.b_image_figures .nil passL (pa_cons (pv 1) (pa_cons (pv 2) (pa_cons (pv 6) pa_nil))))))
 (pss_cons (ps_for (passes_of rfl) rfl (pi_range1 (by rfl) T.n_range (pa_cons pe_int pa_nil)) (pg_name (i := 4) sc_settled.nd rfl (.inr rfl))
 (pss_cons (ps_set (i := 5) sc_settled.nd rfl (.inr rfl) (pe_call G_view_times (hr.mono (by decide)) (by rfl) T.g_view_times T.F_view_times.kp T.b_view_times .nil passL (pa_cons (pv 3) (pa_cons (pv 4) pa_nil))))
 (pss_cons (ps_setLc (i := 3) (te := (tTup (tCons (tVar 7) (tCons (tVar 8) (tCons (tOp (rI0 fun i j => V.int (i + j)) (tVar 9) (tOp (rI CMulW fun i j => V.int (i * j)) (tVar 5) (tOp (rIxT K) (tTup (tCons (tVar 7) (tCons (tVar 8) tNil))) (tVar 4)))) tNil))))) (own := [("x", 7), ("y", 8), ("area", 9)]) (g := gTup K 3 (gCons (gName 7) (gCons (gName 8) (gCons (gName 9) gNil)))) (by rfl) sc_settled.nd rfl rfl (sw_true rfl rfl rfl (by decide +kernel)) (pi_list (pv 3)) (blkOk_by (own := [("x", 7), ("y", 8), ("area", 9)]) (N := N_settled) (sc := defScope s_settled) (by decide +kernel)) (fun _ _ _ _ _ => pg_tup rfl (pgs_cons (pg_name (i := 7) sc_settled.nd rfl (Or.inl rfl)) (pgs_cons (pg_name (i := 8) sc_settled.nd rfl (Or.inl rfl)) (pgs_cons (pg_name (i := 9) sc_settled.nd rfl (Or.inl rfl)) pgs_nil)))) (fun _ _ _ _ _ => pts_nil) (fun _ _ _ _ _ => (pe_tup (pa_cons (pv 7) (pa_cons (pv 8) (pa_cons (pe_op op_add (pv 9) (pe_op op_mulW (pv 5) (pe_ix ix_tup (pe_tup (pa_cons (pv 7) (pa_cons (pv 8) pa_nil))) (pv 4) (fun _ _ => rfl)))) pa_nil))))))
 (pss_cons (ps_set (i := 1) sc_settled.nd rfl (.inr rfl) (pe_meth (pv 1) T.cl_Place T.M_Place_lifted G_Place_lifted (hr.mono (by decide)) T.b_Place_lifted .nil passL (pa_cons (pe_op op_mulW (pv 5) (pe_ix ix_tup (pe_tup (pa_cons (pe_fld (pv 1) rfl) (pa_cons (pe_fld (pv 1) rfl) pa_nil))) (pv 4) (fun _ _ => rfl))) pa_nil)))
 (pss_one (ps_set (i := 2) sc_settled.nd rfl (.inr rfl) (pe_meth (pv 2) T.cl_Place T.M_Place_lifted G_Place_lifted (hr.mono (by decide)) T.b_Place_lifted .nil passL (pa_cons (pe_op op_mulW (pv 5) (pe_ix ix_tup (pe_tup (pa_cons (pe_fld (pv 2) rfl) (pa_cons (pe_fld (pv 2) rfl) pa_nil))) (pv 4) (fun _ _ => rfl))) pa_nil))))))))
 (pss_one (ps_ret (pe_tup (pa_cons (pe_callTy call_tuple_of (by rfl) T.n_tuple (by decide +kernel) (pa_cons (pv 3) pa_nil)) (pa_cons (pv 1) (pa_cons (pv 2) pa_nil)))))))), run_body (ρ := [some (seqD sb (L.map (plT T))), some (plT T A.1), some (plT T A.2), none, none, none, none, none, none, none]) hs hR hK hX rfl ?_⟩
  obtain ⟨hp, hq, hs1, hr1, ht, hu1⟩ := hS
  have len8 : ∀ M : List T3, M.length = L.length → M.length < sizeLine := fun M h => by
    have := hL.len
    have : 8 < sizeLine := by decide
    omega
  have hSA : SzC 410 0 A := ⟨hp, hq, hs1, hr1, ht, hu1⟩
  refine ws_seq <| ws_set <| we_lc_toldS (E1 := E0) (f := plT T) (g := fun p => tD (im6 A p)) sb <| we_var rfl ⟨L, rfl, len8 L rfl, fun p hp' k' hk' => ?_, ?_⟩
  · obtain ⟨b1, b2, b3⟩ := hL.b p hp'
    exact we_call <| wa_cons <| we_var rfl <| wa_cons <| we_var rfl <| wa_cons <| we_var rfl <| wa_nil ⟨_, _, _, _, _, _, _, _, _, rfl, (by apply Bd.mono; (repeat (first | assumption | exact Bd.lit 64 (by decide +kernel) | exact Bd.lit 2000 (by decide +kernel) | apply Bd.neg | apply Bd.fdiv | apply Bd.mul | apply Bd.add2 | apply Bd.sub2)); decide), (by apply Bd.mono; (repeat (first | assumption | exact Bd.lit 64 (by decide +kernel) | exact Bd.lit 2000 (by decide +kernel) | apply Bd.neg | apply Bd.fdiv | apply Bd.mul | apply Bd.add2 | apply Bd.sub2)); decide), (by apply Bd.mono; (repeat (first | assumption | exact Bd.lit 64 (by decide +kernel) | exact Bd.lit 2000 (by decide +kernel) | apply Bd.neg | apply Bd.fdiv | apply Bd.mul | apply Bd.add2 | apply Bd.sub2)); decide), (by apply Bd.mono; (repeat (first | assumption | exact Bd.lit 64 (by decide +kernel) | exact Bd.lit 2000 (by decide +kernel) | apply Bd.neg | apply Bd.fdiv | apply Bd.mul | apply Bd.add2 | apply Bd.sub2)); decide), (by apply Bd.mono; (repeat (first | assumption | exact Bd.lit 64 (by decide +kernel) | exact Bd.lit 2000 (by decide +kernel) | apply Bd.neg | apply Bd.fdiv | apply Bd.mul | apply Bd.add2 | apply Bd.sub2)); decide), (by apply Bd.mono; (repeat (first | assumption | exact Bd.lit 64 (by decide +kernel) | exact Bd.lit 2000 (by decide +kernel) | apply Bd.neg | apply Bd.fdiv | apply Bd.mul | apply Bd.add2 | apply Bd.sub2)); decide), (by apply Bd.mono; (repeat (first | assumption | exact Bd.lit 64 (by decide +kernel) | exact Bd.lit 2000 (by decide +kernel) | apply Bd.neg | apply Bd.fdiv | apply Bd.mul | apply Bd.add2 | apply Bd.sub2)); decide), (by apply Bd.mono; (repeat (first | assumption | exact Bd.lit 64 (by decide +kernel) | exact Bd.lit 2000 (by decide +kernel) | apply Bd.neg | apply Bd.fdiv | apply Bd.mul | apply Bd.add2 | apply Bd.sub2)); decide), (by apply Bd.mono; (repeat (first | assumption | exact Bd.lit 64 (by decide +kernel) | exact Bd.lit 2000 (by decide +kernel) | apply Bd.neg | apply Bd.fdiv | apply Bd.mul | apply Bd.add2 | apply Bd.sub2)); decide), hk'⟩
  have e0 : L.map (fun p => tD (im6 A p)) = (L.map (im6 A)).map tD := by rw [List.map_map]; rfl
  rw [e0]
  have hb0 : ∀ p ∈ L.map (im6 A), Bd 546 p.1 ∧ Bd 546 p.2.1 ∧ Bd 1095 p.2.2 := fun p hp' => by
    obtain ⟨z, hz, rfl⟩ := List.mem_map.mp hp'
    obtain ⟨b1, b2, b3⟩ := hL.b z hz
    exact im_bdg (M := 1091) hSA hA b1 b2 b3 (by decide) (by decide) (by decide) (by decide)
  have ln0 : (L.map (im6 A)).length = L.length := List.length_map ..
  obtain ⟨L0, eL⟩ : ∃ L0, L0 = L.map (im6 A) := ⟨_, rfl⟩
  rw [← eL] at hb0 ln0 hk ⊢
  obtain ⟨tx, etx⟩ : ∃ t, t = vtx L0 := ⟨_, rfl⟩
  have btx : Bd 1095 tx := by rw [etx]; exact vtx_bd fun p hp' => (hb0 p hp').2.2
  have hb1 : ∀ p ∈ L0.map (shx tx), Bd 546 p.1 ∧ Bd 546 p.2.1 ∧ Bd 1642 p.2.2 := fun p hp' => by
    obtain ⟨z, hz, rfl⟩ := List.mem_map.mp hp'
    obtain ⟨b1, b2, b3⟩ := hb0 z hz
    exact ⟨b1, b2, Bd.add (b3.mono (show 1095 ≤ 1641 by decide)) (Bd.mul btx b1)⟩
  rw [← etx] at hk
  obtain ⟨ty, ety⟩ : ∃ t, t = vty (L0.map (shx tx)) := ⟨_, rfl⟩
  have bty : Bd 1642 ty := by rw [ety]; exact vty_bd fun p hp' => (hb1 p hp').2.2
  rw [← ety] at hk
  have es : sett L0 = (L0.map (shx tx)).map (shy ty) := by unfold sett; rw [← etx, ← ety]
  have q1 : ∀ {z w : Int}, Bd 0 z → Bd 410 w → Bd 1506 (z + tx * w) := fun h1 h2 => Bd.add (h1.mono (by decide)) (Bd.mul btx h2)
  have q2 : ∀ {z w : Int}, Bd 1506 z → Bd 410 w → Bd 2053 (z + ty * w) := fun h1 h2 => Bd.add (h1.mono (by decide)) (Bd.mul bty h2)
  have hk := hk ⟨hp.mono (by decide), hq.mono (by decide), (q2 (q1 hs1 hp) hq).mono (by decide), hr1.mono (by decide), ht.mono (by decide), (q2 (q1 hu1 hr1) ht).mono (by decide)⟩
  rw [es] at hk
  clear es e0 eL
  refine ws_cut (fun ρ' B' => (∃ o4 o5, ρ' = [some (seqD sb (L.map (plT T))), some (plT T (lift6 tx ty A).1), some (plT T (lift6 tx ty A).2), some (.lst (((L0.map (shx tx)).map (shy ty)).map tD)), o4, o5, none, none, none, none]) ∧ B = B') ?_ ?_
  · refine ws_for_range1 <| wa_cons <| we_int <| wa_nil ⟨2, rfl, by decide, by decide, fun i ρ' B' => (∃ (M : List T3) (F : T6) (o4 o5 : Option D), ρ' = [some (seqD sb (L.map (plT T))), some (plT T F.1), some (plT T F.2), some (.lst (M.map tD)), o4, o5, none, none, none, none] ∧ (i = 0 → M = L0 ∧ F = A) ∧ (i = 1 → M = L0.map (shx tx) ∧ F = (shx tx A.1, shx tx A.2)) ∧ (i = 2 → M = (L0.map (shx tx)).map (shy ty) ∧ F = lift6 tx ty A)) ∧ B = B', ⟨⟨_, A, _, _, rfl, fun _ => ⟨rfl, rfl⟩, (fun z => absurd z (by decide)), (fun z => absurd z (by decide))⟩, rfl⟩, fun i ρ' B' hi hI => ?_, fun ρ' B' hI => ?_⟩
    · obtain ⟨⟨M, F, o4, o5, rfl, i0, i1, i2⟩, rfl⟩ := hI
      rcases i with _ | _ | i
      · obtain ⟨rfl, rfl⟩ := i0 rfl
        refine wg_name ?_
        refine ws_seq (ws_set (we_call (wa_cons (we_var rfl (wa_cons (we_var rfl (wa_nil ⟨M, _, rfl, (fun p hp => ⟨(hb0 p hp).1.mono (by decide), (hb0 p hp).2.1.mono (by decide)⟩), .inl ⟨rfl, ?_⟩⟩)))))))
        rw [← etx]
        refine ws_seq <| ws_set <| we_lc_tripL (E1 := E0) (f := fun p => tD (shx tx p)) (by decide) (by decide) (by decide) <| we_var rfl ⟨M, rfl, len8 M ln0, fun p hp' k' hk' => ?_, ?_⟩
        · obtain ⟨b1, b2, b3⟩ := hb0 p hp'
          exact we_tup <| wa_cons <| we_var rfl <| wa_cons <| we_var rfl <| wa_cons <| we_op <| we_var rfl <| we_op <| we_var rfl <| we_op <| we_tup <| wa_cons <| we_var rfl <| wa_cons <| we_var rfl <| wa_nil ⟨Nat.le_of_ble_eq_true rfl, we_var rfl <| ro_ixT rfl <| ro_i (cmc (by apply Bd.mono; (repeat (first | assumption | exact Bd.lit 64 (by decide +kernel) | exact Bd.lit 2000 (by decide +kernel) | apply Bd.neg | apply Bd.fdiv | apply Bd.mul | apply Bd.add2 | apply Bd.sub2)); decide) (by apply Bd.mono; (repeat (first | assumption | exact Bd.lit 64 (by decide +kernel) | exact Bd.lit 2000 (by decide +kernel) | apply Bd.neg | apply Bd.fdiv | apply Bd.mul | apply Bd.add2 | apply Bd.sub2)); decide)) <| ro_i0 <| wa_nil ⟨Nat.le_of_ble_eq_true rfl, hk'⟩⟩
        have em : M.map (fun p => tD (shx tx p)) = (M.map (shx tx)).map tD := by rw [List.map_map]; rfl
        rw [em]
        refine ws_seq (ws_set (we_meth (we_var rfl ⟨_, _, rfl, by decide +kernel, (wa_cons (we_op (we_var rfl (we_op (we_tup (wa_cons (we_fx T (we_var rfl ⟨_, _, _, rfl, (wa_cons (we_fy T (we_var rfl ⟨_, _, _, rfl, (wa_nil ⟨Nat.le_of_ble_eq_true rfl, (we_var rfl (ro_ixT rfl (ro_i (cmc (by apply Bd.mono; (repeat (first | assumption | exact Bd.lit 64 (by decide +kernel) | exact Bd.lit 2000 (by decide +kernel) | apply Bd.neg | apply Bd.fdiv | apply Bd.mul | apply Bd.add2 | apply Bd.sub2)); decide) (by apply Bd.mono; (repeat (first | assumption | exact Bd.lit 64 (by decide +kernel) | exact Bd.lit 2000 (by decide +kernel) | apply Bd.neg | apply Bd.fdiv | apply Bd.mul | apply Bd.add2 | apply Bd.sub2)); decide)) (wa_nil ⟨_, _, _, _, rfl, ?_⟩))))⟩)⟩)))⟩))))))))⟩)))
        refine (ws_set (we_meth (we_var rfl ⟨_, _, rfl, by decide +kernel, (wa_cons (we_op (we_var rfl (we_op (we_tup (wa_cons (we_fx T (we_var rfl ⟨_, _, _, rfl, (wa_cons (we_fy T (we_var rfl ⟨_, _, _, rfl, (wa_nil ⟨Nat.le_of_ble_eq_true rfl, (we_var rfl (ro_ixT rfl (ro_i (cmc (by apply Bd.mono; (repeat (first | assumption | exact Bd.lit 64 (by decide +kernel) | exact Bd.lit 2000 (by decide +kernel) | apply Bd.neg | apply Bd.fdiv | apply Bd.mul | apply Bd.add2 | apply Bd.sub2)); decide) (by apply Bd.mono; (repeat (first | assumption | exact Bd.lit 64 (by decide +kernel) | exact Bd.lit 2000 (by decide +kernel) | apply Bd.neg | apply Bd.fdiv | apply Bd.mul | apply Bd.add2 | apply Bd.sub2)); decide)) (wa_nil ⟨_, _, _, _, rfl, ?_⟩))))⟩)⟩)))⟩))))))))⟩)))
        exact ⟨⟨_, (shx tx F.1, shx tx F.2), _, _, rfl, (fun z => absurd z (by decide)), (fun _ => ⟨rfl, rfl⟩), (fun z => absurd z (by decide))⟩, rfl⟩
      · obtain ⟨rfl, rfl⟩ := i1 rfl
        refine wg_name ?_
        have hs2 : Bd 1506 (shx tx A.1).2.2 := q1 hs1 hp
        have hu2 : Bd 1506 (shx tx A.2).2.2 := q1 hu1 hr1
        refine ws_seq (ws_set (we_call (wa_cons (we_var rfl (wa_cons (we_var rfl (wa_nil ⟨L0.map (shx tx), _, rfl, (fun p hp => ⟨(hb1 p hp).1.mono (by decide), (hb1 p hp).2.1.mono (by decide)⟩), .inr ⟨rfl, ?_⟩⟩)))))))
        rw [← ety]
        refine ws_seq <| ws_set <| we_lc_tripL (E1 := E0) (f := fun p => tD (shy ty p)) (by decide) (by decide) (by decide) <| we_var rfl ⟨L0.map (shx tx), rfl, len8 _ (by rw [List.length_map]; exact ln0), fun p hp' k' hk' => ?_, ?_⟩
        · obtain ⟨b1, b2, b3⟩ := hb1 p hp'
          exact we_tup <| wa_cons <| we_var rfl <| wa_cons <| we_var rfl <| wa_cons <| we_op <| we_var rfl <| we_op <| we_var rfl <| we_op <| we_tup <| wa_cons <| we_var rfl <| wa_cons <| we_var rfl <| wa_nil ⟨Nat.le_of_ble_eq_true rfl, we_var rfl <| ro_ixT rfl <| ro_i (cmc (by apply Bd.mono; (repeat (first | assumption | exact Bd.lit 64 (by decide +kernel) | exact Bd.lit 2000 (by decide +kernel) | apply Bd.neg | apply Bd.fdiv | apply Bd.mul | apply Bd.add2 | apply Bd.sub2)); decide) (by apply Bd.mono; (repeat (first | assumption | exact Bd.lit 64 (by decide +kernel) | exact Bd.lit 2000 (by decide +kernel) | apply Bd.neg | apply Bd.fdiv | apply Bd.mul | apply Bd.add2 | apply Bd.sub2)); decide)) <| ro_i0 <| wa_nil ⟨Nat.le_of_ble_eq_true rfl, hk'⟩⟩
        have em : (L0.map (shx tx)).map (fun p => tD (shy ty p)) = ((L0.map (shx tx)).map (shy ty)).map tD := by rw [List.map_map (f := shy ty)]; rfl
        rw [em]
        have hq3 : Bd 410 (shx tx A.1).2.1 := hq
        have ht3 : Bd 410 (shx tx A.2).2.1 := ht
        refine ws_seq (ws_set (we_meth (we_var rfl ⟨_, _, rfl, by decide +kernel, (wa_cons (we_op (we_var rfl (we_op (we_tup (wa_cons (we_fx T (we_var rfl ⟨_, _, _, rfl, (wa_cons (we_fy T (we_var rfl ⟨_, _, _, rfl, (wa_nil ⟨Nat.le_of_ble_eq_true rfl, (we_var rfl (ro_ixT rfl (ro_i (cmc (by apply Bd.mono; (repeat (first | assumption | exact Bd.lit 64 (by decide +kernel) | exact Bd.lit 2000 (by decide +kernel) | apply Bd.neg | apply Bd.fdiv | apply Bd.mul | apply Bd.add2 | apply Bd.sub2)); decide) (by apply Bd.mono; (repeat (first | assumption | exact Bd.lit 64 (by decide +kernel) | exact Bd.lit 2000 (by decide +kernel) | apply Bd.neg | apply Bd.fdiv | apply Bd.mul | apply Bd.add2 | apply Bd.sub2)); decide)) (wa_nil ⟨_, _, _, _, rfl, ?_⟩))))⟩)⟩)))⟩))))))))⟩)))
        refine (ws_set (we_meth (we_var rfl ⟨_, _, rfl, by decide +kernel, (wa_cons (we_op (we_var rfl (we_op (we_tup (wa_cons (we_fx T (we_var rfl ⟨_, _, _, rfl, (wa_cons (we_fy T (we_var rfl ⟨_, _, _, rfl, (wa_nil ⟨Nat.le_of_ble_eq_true rfl, (we_var rfl (ro_ixT rfl (ro_i (cmc (by apply Bd.mono; (repeat (first | assumption | exact Bd.lit 64 (by decide +kernel) | exact Bd.lit 2000 (by decide +kernel) | apply Bd.neg | apply Bd.fdiv | apply Bd.mul | apply Bd.add2 | apply Bd.sub2)); decide) (by apply Bd.mono; (repeat (first | assumption | exact Bd.lit 64 (by decide +kernel) | exact Bd.lit 2000 (by decide +kernel) | apply Bd.neg | apply Bd.fdiv | apply Bd.mul | apply Bd.add2 | apply Bd.sub2)); decide)) (wa_nil ⟨_, _, _, _, rfl, ?_⟩))))⟩)⟩)))⟩))))))))⟩)))
        exact ⟨⟨_, lift6 tx ty A, _, _, rfl, (fun z => absurd z (by decide)), (fun z => absurd z (by decide)), fun _ => ⟨rfl, rfl⟩⟩, rfl⟩
      · have hi : i + 1 + 1 < 2 := hi
        omega
    · obtain ⟨⟨M, F, o4, o5, rfl, i0, i1, i2⟩, rfl⟩ := hI
      obtain ⟨rfl, rfl⟩ := i2 rfl
      exact ⟨⟨_, _, rfl⟩, rfl⟩
  rintro _ _ ⟨⟨o4, o5, rfl⟩, rfl⟩
  exact ws_ret <| we_tup <| wa_cons <| we_tupleL <| wa_cons <| we_var rfl <| wa_nil ⟨_, rfl, wa_cons <| we_var rfl <| wa_cons <| we_var rfl <| wa_nil ⟨Nat.le_of_ble_eq_true rfl, hk⟩⟩
end
end AW

set_option linter.all false
set_option maxRecDepth 100000
set_option maxHeartbeats 8000000
namespace AW
open PySem PySem.Spec PyProof.Rows L2
variable [Tbs]
section
variable {P : Program} {w : World} {K : PySem.W.Frag} {mg : Str → Option Value} {base : Heap}
abbrev pD (T : Tx K mg) (A : T6) : D := .tup [plT T A.1, plT T A.2]
def pr_mirrored_pair (T : Tx K mg) : Pr := fun ds B k e => ∃ a v b w : Int, ds = [.int a, .int v, .int b, .int w] ∧ Bd 8000 v ∧ Bd 8000 w ∧ k (.lst [pD T ((a, v, 0), (b, w, 0)), pD T ((a, -v, 0), (b, -w, 0))]) B
theorem okD_mirrored_pair (T : Tx K mg) : FnOk P w K mg base (L2.CX P w) 6 T.a_mirrored_pair T.d_mirrored_pair P_mirrored_pair (spD K (pr_mirrored_pair T)) := by
  refine T.F_mirrored_pair.okX sc_mirrored_pair (spD_len fun ds B k e h => by obtain ⟨a, v, b, w1, rfl, hv, hw, hk⟩ := h; rfl) (fun cdv A outer s H vs Q E hr h => ?_)
  have G_Place_init : FnOk P w K mg base (L2.CX P w) _ _ _ _ _ := okD_Place_init T
  obtain ⟨G, ds, B, k, e, hs, hR, ⟨a, v, b, w1, rfl, hv, hw, hk⟩, hK, hX⟩ := h
  refine ⟨_, (pss_one (ps_ret (pe_lc (own := [("sign", 4)]) (g := gName 4) (by rfl) sc_mirrored_pair.nd (pi_tup (pe_tup (pa_cons pe_int (pa_cons (pe_un un_neg pe_int) pa_nil)))) (blkOk_by (own := [("sign", 4)]) (N := N_mirrored_pair) (sc := defScope s_mirrored_pair) (by decide +kernel)) (fun _ _ _ _ _ => pg_name (i := 4) sc_mirrored_pair.nd rfl (Or.inl rfl)) (fun _ _ _ _ _ => pts_nil) (fun _ _ _ _ _ => (pe_tup (pa_cons (pe_make T.M_Place G_Place_init (hr.mono (by decide)) (by rfl) T.g_C_Place T.b_Place_init .nil passL (pa_cons (pv 0) (pa_cons (pe_op op_mulW (pv 1) (pv 4)) (pa_cons pe_int pa_nil)))) (pa_cons (pe_make T.M_Place G_Place_init (hr.mono (by decide)) (by rfl) T.g_C_Place T.b_Place_init .nil passL (pa_cons (pv 2) (pa_cons (pe_op op_mulW (pv 3) (pv 4)) (pa_cons pe_int pa_nil)))) pa_nil))))))), run_body (ρ := [some (.int a), some (.int v), some (.int b), some (.int w1), none]) hs hR hK hX rfl ?_⟩
  refine ws_ret <| we_lc_toldT (E1 := E0) (f := D.int) (g := fun s => pD T ((a, v * s, 0), (b, w1 * s, 0))) <| we_tup <| wa_cons <| we_int <| wa_cons <| we_neg <| we_int ⟨_, rfl, wa_nil ⟨Nat.le_of_ble_eq_true rfl, [1, -1], rfl, (by show 2 < sizeLine; decide), fun s hs k' hk' => ?_, ?_⟩⟩
  · have bs : Bd 3 s := by
      simp only [List.mem_cons, List.not_mem_nil, or_false] at hs
      rcases hs with rfl | rfl <;> exact Bd.lit 3 (by decide)
    exact we_tup <| wa_cons <| we_place T <| wa_cons <| we_var rfl <| wa_cons <| we_op <| we_var rfl <| we_var rfl <| ro_i (cmc (by apply Bd.mono; (repeat (first | assumption | exact Bd.lit 64 (by decide +kernel) | exact Bd.lit 2000 (by decide +kernel) | apply Bd.neg | apply Bd.fdiv | apply Bd.mul | apply Bd.add2 | apply Bd.sub2)); decide) (by apply Bd.mono; (repeat (first | assumption | exact Bd.lit 64 (by decide +kernel) | exact Bd.lit 2000 (by decide +kernel) | apply Bd.neg | apply Bd.fdiv | apply Bd.mul | apply Bd.add2 | apply Bd.sub2)); decide)) <| wa_cons <| we_int <| wa_nil ⟨_, _, _, rfl, wa_cons <| we_place T <| wa_cons <| we_var rfl <| wa_cons <| we_op <| we_var rfl <| we_var rfl <| ro_i (cmc (by apply Bd.mono; (repeat (first | assumption | exact Bd.lit 64 (by decide +kernel) | exact Bd.lit 2000 (by decide +kernel) | apply Bd.neg | apply Bd.fdiv | apply Bd.mul | apply Bd.add2 | apply Bd.sub2)); decide) (by apply Bd.mono; (repeat (first | assumption | exact Bd.lit 64 (by decide +kernel) | exact Bd.lit 2000 (by decide +kernel) | apply Bd.neg | apply Bd.fdiv | apply Bd.mul | apply Bd.add2 | apply Bd.sub2)); decide)) <| wa_cons <| we_int <| wa_nil ⟨_, _, _, rfl, wa_nil ⟨Nat.le_of_ble_eq_true rfl, hk'⟩⟩⟩
  · show k (.lst [pD T ((a, v * 1, 0), (b, w1 * 1, 0)), pD T ((a, v * -1, 0), (b, w1 * -1, 0))]) B
    rw [Int.mul_one, Int.mul_one, show v * -1 = -v by omega, show w1 * -1 = -w1 by omega]
    exact hk
theorem nz_or {p : T3} {b : Bool} (h : (!decide (p.1 = 0)) = b) : b = true → nz p = true := fun hb => by
  subst hb
  rw [nz_t]
  intro z
  rw [decide_eq_true z.1] at h
  exact nomatch h
theorem nz_or2 {p : T3} (h : (!decide (p.1 = 0)) = false) : nz p = !decide (p.2.1 = 0) := by
  have : p.1 = 0 := by simpa using h
  unfold nz
  rw [this]
  simp
theorem head_find {q : T3 → Bool} {L r : List T3} {h : T3} (e : L.filter q = h :: r) : L.find? q = some h := by
  rw [← List.head?_filter, e]
  rfl
theorem nil_find {q : T3 → Bool} {L : List T3} (e : L.filter q = []) : L.find? q = none := by
  rw [← List.head?_filter, e]
  rfl
def pr_level_renamings (T : Tx K mg) : Pr := fun ds B k e => ∃ (sb : Bool) (L : List T3), ds = [seqD sb (L.map (plT T))] ∧ SzL L ∧ ∀ As, Lev L As → (∀ A ∈ As, SzC 410 0 A) → k (.lst (As.map (pD T))) B
theorem okD_level_renamings (T : Tx K mg) : FnOk P w K mg base (L2.CX P w) 7 T.a_level_renamings T.d_level_renamings P_level_renamings (spD K (pr_level_renamings T)) := by
  refine T.F_level_renamings.okX sc_level_renamings (spD_len fun ds B k e h => by obtain ⟨sb, L, rfl, hL, hk⟩ := h; rfl) (fun cdv A outer s H vs Q E hr h => ?_)
  have G_Place_init : FnOk P w K mg base (L2.CX P w) _ _ _ _ _ := okD_Place_init T
  have G_Place_twist : FnOk P w K mg base (L2.CX P w) 6 _ _ _ _ := okD_Place_twist T
  have G_bezout : FnOk P w K mg base (L2.CX P w) 1 _ _ _ _ := okD_bezout T
  have G_mirrored_pair : FnOk P w K mg base (L2.CX P w) 6 _ _ _ _ := okD_mirrored_pair T
  obtain ⟨G, ds, B, k, e, hs, hR, ⟨sb, L, rfl, hL, hk⟩, hK, hX⟩ := h
  refine ⟨_, (pss_cons (ps_setLc (i := 1) (tt := (tOr (tTest (tOp rNe (tFld K (tVar 12) "x") (tC (.int 0)))) (tTest (tOp rNe (tFld K (tVar 12) "y") (tC (.int 0)))))) (te := (tVar 12)) (own := [("place", 12)]) (g := gName 12) (by rfl) sc_level_renamings.nd rfl rfl (sw_true rfl rfl rfl (by decide +kernel)) (pi_or (pi_list (pv 0)) (pi_tup (pv 0))) (blkOk_by (own := [("place", 12)]) (N := N_level_renamings) (sc := defScope s_level_renamings) (by decide +kernel)) (fun _ _ _ _ _ => pg_name (i := 12) sc_level_renamings.nd rfl (Or.inl rfl)) (fun _ _ _ _ _ => (pts_one (PW.pt (pw_or (pt_cmpR op_ne (pe_fld (pv 12) rfl) pe_int (nomark _)) (pw_or1 (pt_cmpR op_ne (pe_fld (pv 12) rfl) pe_int (nomark _))))))) (fun _ _ _ _ _ => (pv 12)))
 (pss_cons (ps_if (pt_cmpR op_eq (pe_callB call_len_seq (by rfl) T.n_len (by decide +kernel) (pa_cons (pv 1) pa_nil)) pe_int (nomark _))
 (pss_one (ps_ret (pe_call G_mirrored_pair (hr.mono (by decide)) (by rfl) T.g_mirrored_pair T.F_mirrored_pair.kp T.b_mirrored_pair .nil passL (pa_cons pe_int (pa_cons pe_int (pa_cons pe_int (pa_cons pe_int pa_nil)))))))
 pss_nil)
 (pss_cons (ps_set (i := 2) sc_level_renamings.nd rfl (.inr rfl) (pe_ix ix_list (pv 1) pe_int (fun _ _ => rfl)))
 (pss_cons (ps_asg (pe_call G_bezout (hr.mono (by decide)) (by rfl) T.g_bezout T.F_bezout.kp T.b_bezout .nil passL (pa_cons (pe_fld (pv 2) rfl) (pa_cons (pe_fld (pv 2) rfl) pa_nil))) (pg_tup rfl (pgs_cons (pg_name (i := 3) sc_level_renamings.nd rfl (.inl rfl)) (pgs_cons (pg_name (i := 4) sc_level_renamings.nd rfl (.inl rfl)) pgs_nil))))
 (pss_cons (ps_set (i := 5) sc_level_renamings.nd rfl (.inl rfl) (pe_op op_add (pe_op op_mulW (pv 3) (pe_fld (pv 2) rfl)) (pe_op op_mulW (pv 4) (pe_fld (pv 2) rfl))))
 (pss_cons (ps_par (i := 6) (j := 7) (by rfl) sc_level_renamings.nd rfl rfl (by decide) rfl rfl (pa_cons (pe_op op_fdivG (pe_un un_neg (pe_fld (pv 2) rfl)) (pv 5)) (pa_cons (pe_op op_fdivG (pe_fld (pv 2) rfl) (pv 5)) pa_nil)) (by rfl))
 (pss_cons (ps_setLc (i := 8) (tt := (tTest (tOp rNe (tMeth T.C_Place "twist" (spD K (pr_Place_twist T)) [] E0 (tVar 2) (tCons (tVar 12) tNil)) (tC (.int 0))))) (te := (tVar 12)) (own := [("place", 12)]) (g := gName 12) (by rfl) sc_level_renamings.nd rfl rfl (sw_true rfl rfl rfl (by decide +kernel)) (pi_list (pv 1)) (blkOk_by (own := [("place", 12)]) (N := N_level_renamings) (sc := defScope s_level_renamings) (by decide +kernel)) (fun _ _ _ _ _ => pg_name (i := 12) sc_level_renamings.nd rfl (Or.inl rfl)) (fun _ _ _ _ _ => (pts_one (pt_cmpR op_ne (pe_meth (pv 2) T.cl_Place T.M_Place_twist G_Place_twist (hr.mono (by decide)) T.b_Place_twist .nil passL (pa_cons (pv 12) pa_nil)) pe_int (nomark _)))) (fun _ _ _ _ _ => (pv 12)))
 (pss_cons (ps_if (pt_cmpR op_eq (pe_callB call_len_seq (by rfl) T.n_len (by decide +kernel) (pa_cons (pv 8) pa_nil)) pe_int (nomark _))
 (pss_one (ps_ret (pe_call G_mirrored_pair (hr.mono (by decide)) (by rfl) T.g_mirrored_pair T.F_mirrored_pair.kp T.b_mirrored_pair .nil passL (pa_cons (pv 3) (pa_cons (pv 6) (pa_cons (pv 4) (pa_cons (pv 7) pa_nil)))))))
 pss_nil)
 (pss_cons (ps_set (i := 9) sc_level_renamings.nd rfl (.inl rfl) (pe_ix ix_list (pv 8) pe_int (fun _ _ => rfl)))
 (pss_cons (ps_set (i := 10) sc_level_renamings.nd rfl (.inl rfl) (pe_op op_add (pe_op op_mulW (pv 6) (pe_fld (pv 9) rfl)) (pe_op op_mulW (pv 7) (pe_fld (pv 9) rfl))))
 (pss_cons (ps_if (pt_cmpR op_lt (pv 10) pe_int (nomark _))
 (pss_one (ps_par3 (i := 6) (j := 7) (l := 10) (by rfl) sc_level_renamings.nd rfl rfl rfl (by decide) (by decide) (by decide) rfl rfl rfl (pa_cons (pe_un un_neg (pv 6)) (pa_cons (pe_un un_neg (pv 7)) (pa_cons (pe_un un_neg (pv 10)) pa_nil))) (by rfl)))
 pss_nil)
 (pss_cons (ps_set (i := 11) sc_level_renamings.nd rfl (.inl rfl) (pe_op op_fdivG (pe_op op_add (pe_op op_mulW (pv 3) (pe_fld (pv 9) rfl)) (pe_op op_mulW (pv 4) (pe_fld (pv 9) rfl))) (pv 10)))
 (pss_one (ps_ret (pe_lst (pa_cons (pe_tup (pa_cons (pe_make T.M_Place G_Place_init (hr.mono (by decide)) (by rfl) T.g_C_Place T.b_Place_init .nil passL (pa_cons (pe_op op_sub (pv 3) (pe_op op_mulW (pv 11) (pv 6))) (pa_cons (pv 6) (pa_cons pe_int pa_nil)))) (pa_cons (pe_make T.M_Place G_Place_init (hr.mono (by decide)) (by rfl) T.g_C_Place T.b_Place_init .nil passL (pa_cons (pe_op op_sub (pv 4) (pe_op op_mulW (pv 11) (pv 7))) (pa_cons (pv 7) (pa_cons pe_int pa_nil)))) pa_nil))) pa_nil)))))))))))))))), run_body (ρ := [some (seqD sb (L.map (plT T))), none, none, none, none, none, none, none, none, none, none, none, none]) hs hR hK hX rfl ?_⟩
  have len8 : ∀ q : T3 → Bool, (L.filter q).length < sizeLine := fun q => by
    have := hL.len
    have : 8 < sizeLine := by decide
    have := List.length_filter_le q L
    omega
  have lenL : L.length < sizeLine := by
    have := hL.len
    have : 8 < sizeLine := by decide
    omega
  refine ws_seq <| ws_set <| we_lc_filtS (E1 := E0) (f := plT T) sb <| we_var rfl ⟨L, nz, rfl, lenL, fun p hp kb hkb => ?_, fun p hp k' hk' => we_var rfl hk', ?_⟩
  · refine wt_or <| wt_test <| we_op <| we_fx T <| we_var rfl ⟨_, _, _, rfl, we_int <| ro_neI ⟨_, rfl, fun h1 => ?_, fun h1 => ?_⟩⟩
    · rw [nz_or h1 rfl] at hkb
      exact hkb
    · rw [nz_or2 h1] at hkb
      exact wt_test <| we_op <| we_fy T <| we_var rfl ⟨_, _, _, rfl, we_int <| ro_neI ⟨_, rfl, hkb⟩⟩
  cases hf : L.filter nz with
  | nil =>
    refine ws_seq <| ws_if <| wt_test <| we_op <| we_lenL <| wa_cons <| we_var rfl <| wa_nil ⟨_, rfl, we_int <| ro_eqI ⟨_, rfl, fun _ => ?_, fun h => absurd h (show ¬ decide ((0 : Int) = 0) = false by decide)⟩⟩
    refine ws_ret <| we_call <| wa_cons <| we_int <| wa_cons <| we_int <| wa_cons <| we_int <| wa_cons <| we_int <| wa_nil ⟨1, 0, 0, 1, rfl, bd0, Bd.lit 8000 (by decide +kernel), hk _ (lev_none (nil_find hf)) fun A hA => ?_⟩
    simp only [List.mem_cons, List.not_mem_nil, or_false] at hA
    rcases hA with rfl | rfl <;> refine ⟨?_, ?_, bd0, ?_, ?_, bd0⟩ <;> first | exact bd0 | exact Bd.lit 410 (by decide +kernel)
  | cons hb r =>
    have hfd := head_find hf
    have hm := List.mem_of_find?_eq_some hfd
    obtain ⟨bx, by2, _⟩ := hL.b hb hm
    have hnz : nz hb = true := List.find?_some hfd
    have nz0 : hb.1 ≠ 0 ∨ hb.2.1 ≠ 0 := by
      rw [nz_t] at hnz
      omega
    obtain ⟨G, hG, eG, u0, v0, ex, ey, du, dv, hgg⟩ := cop_of nz0
    have gz : G ≠ 0 := by omega
    refine ws_seq <| ws_if <| wt_test <| we_op <| we_lenL <| wa_cons <| we_var rfl <| wa_nil ⟨_, rfl, we_int <| ro_eqI ⟨_, rfl, fun h => ?_, fun _ => ?_⟩⟩
    · have := of_decide_eq_true h
      rw [List.map_cons, List.length_cons] at this
      omega
    refine ws_next ?_
    refine ws_seq (ws_set (we_op (we_var rfl (we_int (ro_ixL atI0 ?_)))))
    refine ws_seq (ws_asg (we_call (wa_cons (we_fx T (we_var rfl ⟨_, _, _, rfl, (wa_cons (we_fy T (we_var rfl ⟨_, _, _, rfl, (wa_nil ⟨135, _, _, rfl, by decide, bx, by2, fun a b hab ba bb => (wg_tup rfl (wgs_cons (wg_name (wgs_cons (wg_name (wgs_nil ?_))))))⟩)⟩)))⟩)))))
    rw [← eG] at hab
    refine ws_seq (ws_set (we_op (we_op (we_var rfl (we_fx T (we_var rfl ⟨_, _, _, rfl, (ro_i (cmc (by apply Bd.mono; (repeat (first | assumption | exact Bd.lit 64 (by decide +kernel) | exact Bd.lit 2000 (by decide +kernel) | apply Bd.neg | apply Bd.fdiv | apply Bd.mul | apply Bd.add2 | apply Bd.sub2)); decide) (by apply Bd.mono; (repeat (first | assumption | exact Bd.lit 64 (by decide +kernel) | exact Bd.lit 2000 (by decide +kernel) | apply Bd.neg | apply Bd.fdiv | apply Bd.mul | apply Bd.add2 | apply Bd.sub2)); decide)) (we_op (we_var rfl (we_fy T (we_var rfl ⟨_, _, _, rfl, (ro_i (cmc (by apply Bd.mono; (repeat (first | assumption | exact Bd.lit 64 (by decide +kernel) | exact Bd.lit 2000 (by decide +kernel) | apply Bd.neg | apply Bd.fdiv | apply Bd.mul | apply Bd.add2 | apply Bd.sub2)); decide) (by apply Bd.mono; (repeat (first | assumption | exact Bd.lit 64 (by decide +kernel) | exact Bd.lit 2000 (by decide +kernel) | apply Bd.neg | apply Bd.fdiv | apply Bd.mul | apply Bd.add2 | apply Bd.sub2)); decide)) (ro_i0 ?_))⟩)))))⟩))))))
    rw [hab]
    have b115 : Bd 135 G := by
      rcases nz0 with z | z
      · exact bd_one (u := u0) (by rintro rfl; rw [Int.mul_zero] at ex; exact z ex) (ex ▸ bx)
      · exact bd_one (u := v0) (by rintro rfl; rw [Int.mul_zero] at ey; exact z ey) (ey ▸ by2)
    have bu0 : Bd 135 u0 := by rw [← du]; exact bx.fdiv
    have bv0 : Bd 135 v0 := by rw [← dv]; exact by2.fdiv
    have dn : (-hb.2.1).fdiv G = -v0 := by rw [ey, ← Int.mul_neg]; exact Int.mul_fdiv_cancel_left _ gz
    refine ws_seq (ws_par (wa_cons (we_op (we_neg (we_fy T (we_var rfl ⟨_, _, _, rfl, ⟨_, rfl, (we_var rfl (ro_i (dvg (by assumption) (by apply Bd.mono; (repeat (first | assumption | exact Bd.lit 64 (by decide +kernel) | exact Bd.lit 2000 (by decide +kernel) | apply Bd.neg | apply Bd.fdiv | apply Bd.mul | apply Bd.add2 | apply Bd.sub2)); decide)) (wa_cons (we_op (we_fx T (we_var rfl ⟨_, _, _, rfl, (we_var rfl (ro_i (dvg (by assumption) (by apply Bd.mono; (repeat (first | assumption | exact Bd.lit 64 (by decide +kernel) | exact Bd.lit 2000 (by decide +kernel) | apply Bd.neg | apply Bd.fdiv | apply Bd.mul | apply Bd.add2 | apply Bd.sub2)); decide)) (wa_nil ⟨_, _, rfl, ?_⟩)))⟩))))))⟩⟩))))))
    rw [dn, du]
    refine ws_seq <| ws_set <| we_lc_filtL (E1 := E0) (f := plT T) <| we_var rfl ⟨hb :: r, fun p => !decide (hb.1 * p.2.1 - p.1 * hb.2.1 = 0), rfl, (by rw [← hf]; exact len8 nz), fun p hp kb hkb => ?_, fun p hp k' hk' => we_var rfl hk', ?_⟩
    · have hpL : p ∈ L := by rw [← hf] at hp; exact (List.mem_filter.mp hp).1
      obtain ⟨c1, c2, _⟩ := hL.b p hpL
      exact wt_test <| we_op <| we_meth <| we_var rfl ⟨_, _, rfl, by decide +kernel, wa_cons <| we_var rfl <| wa_nil ⟨_, _, _, _, _, _, rfl, bx.mono (by decide), by2.mono (by decide), c1.mono (by decide), c2.mono (by decide), we_int <| ro_neI ⟨_, rfl, hkb⟩⟩⟩
    have ef : (hb :: r).filter (fun p => !decide (hb.1 * p.2.1 - p.1 * hb.2.1 = 0)) = L.filter (fun p => nz p && !decide (hb.1 * p.2.1 - p.1 * hb.2.1 = 0)) := by
      rw [← hf, List.filter_filter]
      congr 1
      funext p
      rw [Bool.and_comm]
    rw [ef]
    have szA : ∀ (v w k : Int), Bd 135 v → Bd 135 w → Bd 274 k → SzC 410 0 ((a - k * v, v, 0), (b - k * w, w, 0)) := fun v w k hv hw hk => ⟨(Bd.sub (ba.mono (show 137 ≤ 409 by decide)) (Bd.mul hk hv)), hv.mono (by decide), bd0, (Bd.sub (bb.mono (show 137 ≤ 409 by decide)) (Bd.mul hk hw)), hw.mono (by decide), bd0⟩
    cases hf2 : L.filter (fun p => nz p && !decide (hb.1 * p.2.1 - p.1 * hb.2.1 = 0)) with
    | nil =>
      refine ws_seq <| ws_if <| wt_test <| we_op <| we_lenL <| wa_cons <| we_var rfl <| wa_nil ⟨_, rfl, we_int <| ro_eqI ⟨_, rfl, fun _ => ?_, fun h => absurd h (show ¬ decide ((0 : Int) = 0) = false by decide)⟩⟩
      refine ws_ret <| we_call <| wa_cons <| we_var rfl <| wa_cons <| we_var rfl <| wa_cons <| we_var rfl <| wa_cons <| we_var rfl <| wa_nil ⟨a, -v0, b, u0, rfl, bv0.neg.mono (by decide), bu0.mono (by decide), hk _ (lev_line hfd hG hab (by rw [ey]; grind) ex fun p hp hn => ?_) fun A hA => ?_⟩
      · have h1 := List.filter_eq_nil_iff.mp hf2 p hp
        rw [hn] at h1
        simpa using h1
      · simp only [List.mem_cons, List.not_mem_nil, or_false] at hA
        have h0 := szA (-v0) u0 0 bv0.neg bu0 bd0
        have h1 := szA (- -v0) (-u0) 0 bv0.neg.neg bu0.neg bd0
        rw [Int.zero_mul, Int.zero_mul, Int.sub_zero, Int.sub_zero] at h0 h1
        rcases hA with rfl | rfl
        · exact h0
        · exact h1
    | cons sc r2 =>
      have hs2 := head_find hf2
      have hm2 := List.mem_of_find?_eq_some hs2
      obtain ⟨cx, cy, _⟩ := hL.b sc hm2
      have htw : hb.1 * sc.2.1 - sc.1 * hb.2.1 ≠ 0 := by
        have := List.find?_some hs2
        rw [Bool.and_eq_true] at this
        simpa using this.2
      refine ws_seq <| ws_if <| wt_test <| we_op <| we_lenL <| wa_cons <| we_var rfl <| wa_nil ⟨_, rfl, we_int <| ro_eqI ⟨_, rfl, fun h => ?_, fun _ => ?_⟩⟩
      · have := of_decide_eq_true h
        rw [List.map_cons, List.length_cons] at this
        omega
      refine ws_next ?_
      refine ws_seq (ws_set (we_op (we_var rfl (we_int (ro_ixL atI0 ?_)))))
      refine ws_seq (ws_set (we_op (we_op (we_var rfl (we_fx T (we_var rfl ⟨_, _, _, rfl, (ro_i (cmc (by apply Bd.mono; (repeat (first | assumption | exact Bd.lit 64 (by decide +kernel) | exact Bd.lit 2000 (by decide +kernel) | apply Bd.neg | apply Bd.fdiv | apply Bd.mul | apply Bd.add2 | apply Bd.sub2)); decide) (by apply Bd.mono; (repeat (first | assumption | exact Bd.lit 64 (by decide +kernel) | exact Bd.lit 2000 (by decide +kernel) | apply Bd.neg | apply Bd.fdiv | apply Bd.mul | apply Bd.add2 | apply Bd.sub2)); decide)) (we_op (we_var rfl (we_fy T (we_var rfl ⟨_, _, _, rfl, (ro_i (cmc (by apply Bd.mono; (repeat (first | assumption | exact Bd.lit 64 (by decide +kernel) | exact Bd.lit 2000 (by decide +kernel) | apply Bd.neg | apply Bd.fdiv | apply Bd.mul | apply Bd.add2 | apply Bd.sub2)); decide) (by apply Bd.mono; (repeat (first | assumption | exact Bd.lit 64 (by decide +kernel) | exact Bd.lit 2000 (by decide +kernel) | apply Bd.neg | apply Bd.fdiv | apply Bd.mul | apply Bd.add2 | apply Bd.sub2)); decide)) (ro_i0 ?_))⟩)))))⟩))))))
      refine ws_cut (fun ρ' B' => (∃ v w : Int, ρ' = [some (seqD sb (L.map (plT T))), some (.lst ((hb :: r).map (plT T))), some (plT T hb), some (.int a), some (.int b), some (.int G), some (.int v), some (.int w), some (.lst ((sc :: r2).map (plT T))), some (plT T sc), some (.int (sc.1 * v + sc.2.1 * w)), none, none] ∧ Bd 135 v ∧ Bd 135 w ∧ ((-hb.2.1 = G * v ∧ hb.1 = G * w) ∨ (hb.2.1 = G * v ∧ -hb.1 = G * w)) ∧ 0 < sc.1 * v + sc.2.1 * w) ∧ B = B') ?_ ?_
      · have hne : sc.1 * -v0 + sc.2.1 * u0 ≠ 0 := by
          intro z
          apply htw
          rw [ex, ey]
          have : G * (sc.1 * -v0 + sc.2.1 * u0) = 0 := by rw [z, Int.mul_zero]
          grind
        have ec : -v0 * sc.1 + u0 * sc.2.1 = sc.1 * -v0 + sc.2.1 * u0 := by rw [Int.mul_comm, Int.mul_comm u0]
        rw [ec]
        refine (ws_if (wt_test (we_op (we_var rfl (we_int (ro_b0 ⟨_, rfl, ⟨fun hc1 => ?_, fun hc2 => ?_⟩⟩))))))
        · refine (ws_par3 (wa_cons (we_neg (we_var rfl ⟨_, rfl, (wa_cons (we_neg (we_var rfl ⟨_, rfl, (wa_cons (we_neg (we_var rfl ⟨_, rfl, (wa_nil ⟨_, _, _, rfl, ?_⟩)⟩)))⟩)))⟩))))
          have hneg := of_decide_eq_true hc1; have e2 : -(sc.1 * -v0 + sc.2.1 * u0) = sc.1 * - -v0 + sc.2.1 * -u0 := (by grind); rw [e2]; exact ⟨⟨- -v0, -u0, rfl, bv0.neg.neg, bu0.neg, .inr ⟨by rw [ey]; grind, by rw [ex]; grind⟩, by omega⟩, rfl⟩
        · refine ws_next ?_
          have hneg := of_decide_eq_false hc2; exact ⟨⟨-v0, u0, rfl, bv0.neg, bu0, .inl ⟨by rw [ey]; grind, ex⟩, by omega⟩, rfl⟩
      rintro _ _ ⟨⟨v, w1, rfl, bv, bw, same, hpos⟩, rfl⟩
      have hz : sc.1 * v + sc.2.1 * w1 ≠ 0 := by omega
      have bden : Bd 300 (sc.1 * v + sc.2.1 * w1) := (Bd.add (Bd.mul cx bv) (Bd.mul cy bw)).mono (by decide)
      have bnum : Bd 274 (a * sc.1 + b * sc.2.1) := (Bd.add (Bd.mul ba cx) (Bd.mul bb cy)).mono (by decide)
      have bt : Bd 274 ((a * sc.1 + b * sc.2.1).fdiv (sc.1 * v + sc.2.1 * w1)) := bnum.fdiv
      have r0 := Int.fmod_nonneg_of_pos (a * sc.1 + b * sc.2.1) hpos
      have r1 := Int.fmod_lt_of_pos (a * sc.1 + b * sc.2.1) hpos
      have r2' := Int.mul_fdiv_add_fmod (a * sc.1 + b * sc.2.1) (sc.1 * v + sc.2.1 * w1)
      refine ws_seq (ws_set (we_op (we_op (we_op (we_var rfl (we_fx T (we_var rfl ⟨_, _, _, rfl, (ro_i (cmc (by apply Bd.mono; (repeat (first | assumption | exact Bd.lit 64 (by decide +kernel) | exact Bd.lit 2000 (by decide +kernel) | apply Bd.neg | apply Bd.fdiv | apply Bd.mul | apply Bd.add2 | apply Bd.sub2)); decide) (by apply Bd.mono; (repeat (first | assumption | exact Bd.lit 64 (by decide +kernel) | exact Bd.lit 2000 (by decide +kernel) | apply Bd.neg | apply Bd.fdiv | apply Bd.mul | apply Bd.add2 | apply Bd.sub2)); decide)) (we_op (we_var rfl (we_fy T (we_var rfl ⟨_, _, _, rfl, (ro_i (cmc (by apply Bd.mono; (repeat (first | assumption | exact Bd.lit 64 (by decide +kernel) | exact Bd.lit 2000 (by decide +kernel) | apply Bd.neg | apply Bd.fdiv | apply Bd.mul | apply Bd.add2 | apply Bd.sub2)); decide) (by apply Bd.mono; (repeat (first | assumption | exact Bd.lit 64 (by decide +kernel) | exact Bd.lit 2000 (by decide +kernel) | apply Bd.neg | apply Bd.fdiv | apply Bd.mul | apply Bd.add2 | apply Bd.sub2)); decide)) (ro_i0 (we_var rfl (ro_i (dvg (by assumption) (by apply Bd.mono; (repeat (first | assumption | exact Bd.lit 64 (by decide +kernel) | exact Bd.lit 2000 (by decide +kernel) | apply Bd.neg | apply Bd.fdiv | apply Bd.mul | apply Bd.add2 | apply Bd.sub2)); decide)) ?_))))⟩)))))⟩)))))))
      generalize (a * sc.1 + b * sc.2.1).fdiv (sc.1 * v + sc.2.1 * w1) = t at bt r2' ⊢
      have sz := szA v w1 t bv bw bt
      have kk := hk [((a - t * v, v, 0), (b - t * w1, w1, 0))] (lev_two (k := t) hfd hs2 hG hab (same.imp And.left And.left) (same.imp And.right And.right) same hpos (by grind) (by grind)) (fun A hA => by
        simp only [List.mem_cons, List.not_mem_nil, or_false] at hA
        subst hA
        exact sz)
      refine (ws_ret (we_lst (wa_cons (we_tup (wa_cons (we_place T (wa_cons (we_op (we_var rfl (we_op (we_var rfl (we_var rfl (ro_i (cmc (by apply Bd.mono; (repeat (first | assumption | exact Bd.lit 64 (by decide +kernel) | exact Bd.lit 2000 (by decide +kernel) | apply Bd.neg | apply Bd.fdiv | apply Bd.mul | apply Bd.add2 | apply Bd.sub2)); decide) (by apply Bd.mono; (repeat (first | assumption | exact Bd.lit 64 (by decide +kernel) | exact Bd.lit 2000 (by decide +kernel) | apply Bd.neg | apply Bd.fdiv | apply Bd.mul | apply Bd.add2 | apply Bd.sub2)); decide)) (ro_i0 (wa_cons (we_var rfl (wa_cons (we_int (wa_nil ⟨_, _, _, rfl, (wa_cons (we_place T (wa_cons (we_op (we_var rfl (we_op (we_var rfl (we_var rfl (ro_i (cmc (by apply Bd.mono; (repeat (first | assumption | exact Bd.lit 64 (by decide +kernel) | exact Bd.lit 2000 (by decide +kernel) | apply Bd.neg | apply Bd.fdiv | apply Bd.mul | apply Bd.add2 | apply Bd.sub2)); decide) (by apply Bd.mono; (repeat (first | assumption | exact Bd.lit 64 (by decide +kernel) | exact Bd.lit 2000 (by decide +kernel) | apply Bd.neg | apply Bd.fdiv | apply Bd.mul | apply Bd.add2 | apply Bd.sub2)); decide)) (ro_i0 (wa_cons (we_var rfl (wa_cons (we_int (wa_nil ⟨_, _, _, rfl, (wa_nil ⟨Nat.le_of_ble_eq_true rfl, (wa_nil ⟨Nat.le_of_ble_eq_true rfl, ?_⟩)⟩)⟩)))))))))))))))⟩)))))))))))))))))))
      exact kk
end
end AW

set_option linter.all false
set_option maxRecDepth 100000
set_option maxHeartbeats 8000000
namespace AW
open PySem PySem.Spec PyProof.Rows L2
variable [Tbs]
section
variable {P : Program} {w : World} {K : PySem.W.Frag} {mg : Str → Option Value} {base : Heap}
/-- an own error with two fields -/
def sp_einit2 (C : Addr) (f g : Str) : Sp := fun vs H Q _ => ∃ (a : Addr) (v u : V), vs = [.ref a, v, u] ∧ H a = some (exo a C none) ∧ ∀ dx, H dx = none → dx ≠ a → Q .non (upd (upd (upd H dx (exd dx [(f, v)])) a (exo a C (some dx))) dx (exd dx [(g, u), (f, v)]))
theorem ok_Uneven_init (T : Tx K mg) : FnOk P w K mg base (L2.CX P w) 1 T.a_Uneven_init T.d_Uneven_init P_Uneven_init (sp_einit2 T.C_Uneven "first" "second") := by
  refine T.F_Uneven_init.okX sc_Uneven_init (fun vs H Q E h => ?_) (fun cdv A outer s H vs Q E hr h => ?_)
  · obtain ⟨a, v, u, rfl, _⟩ := h
    rfl
  · obtain ⟨a, v, u, rfl, ha, k⟩ := h
    refine ⟨_, pss_cons (ps_ost (pv 0) (pv 1)) (pss_one (ps_ost (pv 0) (pv 2))), ?_⟩
    refine ⟨_, rfl, _, rfl, a, T.C_Uneven, rfl, T.X_Uneven, T.na_Uneven_first, .inl ⟨ha, fun dx hd ne => ?_⟩⟩
    refine ⟨_, rfl, _, rfl, a, T.C_Uneven, rfl, T.X_Uneven, T.na_Uneven_second, .inr ⟨dx, [("first", v)], upd_same, by rw [upd_ne ne, upd_same], by show 1 ≤ 900; decide, k dx hd ne⟩⟩
def Err2 (H : Hp) (E : XK) (C : Addr) (f g : Str) (v u : V) : Prop := ∀ (d : Addr) (H' : Hp), Same H H' → H d = none → H' d = some (.xd [(g, u), (f, v)]) → E (.ref C) (some d) H'
theorem mk_einit2 {C : Addr} {f g : Str} {σ : L2.St} {H : Hp} {Q : XK} {ta : TA} {v u : V} (h : ta σ H fun vs H1 => vs = [v, u] ∧ H1 = H) (k : Err2 H Q C f g v u) (hta : ∀ (Q Q' : List V → Hp → Prop), (∀ vs H, Q vs H → Q' vs H) → ta σ H Q → ta σ H Q') : tMkO C (sp_einit2 C f g) [] ta σ H Q := by
  refine hta _ _ ?_ h
  rintro vs H1 ⟨rfl, rfl⟩
  refine ⟨by show 2 ≤ 1000; decide, fun a ha => ⟨a, v, u, rfl, upd_same, fun dx hd ne => ⟨rfl, dx, [(g, u), (f, v)], ?_, upd_same, ?_, ?_⟩⟩⟩
  · rw [upd_ne (Ne.symm ne), upd_same]
  · rw [upd_ne ne] at hd; exact hd
  · have hdx : H1 dx = none := by rw [upd_ne ne] at hd; exact hd
    refine k dx _ (fun b o e => ?_) hdx upd_same
    have nb : b ≠ dx := ne_of_none e hdx
    have na : b ≠ a := ne_of_none e ha
    rw [upd_ne nb, del_ne na, upd_ne nb, upd_ne na, upd_ne nb, upd_ne na]
    exact e
section
variable {E : XK} {e : EW} {ρ : List (Option D)} {B : Int} {κ : KS} {t : TA}
theorem Err2.ofX {H G : Hp} {C : Addr} {f g : Str} {d c : D} {v u : V} (s : Sub G H) (r : Rep K G B d v) (r2 : Rep K G B c u) (x : XOk K E e G H B) (h : e C (some ([g, f], [c, d])) B) : Err2 H E C f g v u := fun dx H' ss nd hd => by
  have e1 : Ext G H B G H' B := ⟨Le.refl _ _, fun a o z => ss _ _ (s _ _ z), fun a o z n _ => ⟨ss _ _ z, n⟩⟩
  exact x C _ B G H' h e1 dx [u, v] hd rfl ⟨u, [v], rfl, r2, v, [], rfl, r, rfl⟩
/-- raise C(d, c), C with two fields -/
theorem ws_raise2 {C : Addr} {f g : Str} (h : Wa K E e t ρ B fun ds B1 => ∃ d c, ds = [d, c] ∧ e C (some ([g, f], [c, d])) B1) : Ws K E e (fun _ σ H => tMkO C (sp_einit2 C f g) [] t σ H fun cls d H' => E cls d H') ρ B κ := fun σ H G Dn s en x q =>
  h σ H G _ s en x fun ds vs B1 G1 H1 ⟨d, c, ed, he⟩ e1 r1 => by
    subst ed
    obtain ⟨v, _, rfl, rv, u, _, rfl, ru, rfl⟩ := r1
    exact mk_einit2 (σ := σ) (ta := fun _ H Q => Q [v, u] H) ⟨rfl, rfl⟩ (Err2.ofX e1.sub rv ru (x.ext e1) he) fun Q Q' h1 h2 => h1 _ _ h2
end
/-- the first thing in xs that is no place -/
def BadAt (T : Tx K mg) (xs : List D) (d : D) : Prop := ∃ j : Nat, xs[j]? = some d ∧ plainD d = true ∧ ∀ (i : Nat) x, i < j → xs[i]? = some x → gd T x
def AllG (T : Tx K mg) (xs : List D) : Prop := ∀ x ∈ xs, gd T x
/-- how two lists are refused -/
def Refs (T : Tx K mg) (xs ys : List D) (e : EW) (B : Int) : Prop :=
  (∃ d, BadAt T xs d ∧ e T.C_BadPlace (some ((["value"] : List Str), [d])) B) ∨
  (AllG T xs ∧ ∃ d, BadAt T ys d ∧ e T.C_BadPlace (some ((["value"] : List Str), [d])) B) ∨
  (AllG T xs ∧ AllG T ys ∧ xs.length ≠ ys.length ∧ e T.C_Uneven (some ((["second", "first"] : List Str), [.int ys.length, .int xs.length])) B)
end
end AW

set_option linter.all false
set_option maxRecDepth 100000
set_option maxHeartbeats 8000000
namespace AW
open PySem PySem.Spec PyProof.Rows L2
variable [Tbs]
section
variable {P : Program} {w : World} {K : PySem.W.Frag} {mg : Str → Option Value} {base : Heap}
section
variable {E E' : XK} {e : EW} {ρ : List (Option D)} {B : Int} {k : KD} {κ : KS} {ta tb : TE} {t : TA} {pr : Pr}
theorem we_invR0 (T : Tx K mg) (h : We K E e ta ρ B fun d B1 => ∃ A : T6, d = rn6 T A ∧ pr [rn6 T A] B1 k noE) : We K E e (tUn (rUnO T.C_Renaming (spD K pr) E') ta) ρ B k :=
  we_un (h.imp fun d B1 ⟨A, ed, hk⟩ u H G Q s r xo q => by
    subst ed
    obtain ⟨p, dx, fs, rfl, hp⟩ := rn_ty r
    exact ⟨p, dx, fs, rfl, s _ _ hp, G, [rn6 T A], B1, k, noE, s, ⟨_, _, rfl, r, rfl⟩, hk, q, XOk.no⟩)
end
theorem sz_lift {L : List T3} {A : T6} (hL : SzL L) (hA : On A) (hS : SzC 410 0 A) : SzC 410 2100 (lift6 (vtx (L.map (im6 A))) (vty ((L.map (im6 A)).map (shx (vtx (L.map (im6 A)))))) A) := by
  have hb0 : ∀ p ∈ L.map (im6 A), Bd 546 p.1 ∧ Bd 546 p.2.1 ∧ Bd 1095 p.2.2 := fun p hp' => by
    obtain ⟨z, hz, rfl⟩ := List.mem_map.mp hp'
    obtain ⟨b1, b2, b3⟩ := hL.b z hz
    exact im_bdg (M := 1091) hS hA b1 b2 b3 (by decide) (by decide) (by decide) (by decide)
  generalize L.map (im6 A) = L0 at hb0 ⊢
  have btx : Bd 1095 (vtx L0) := vtx_bd fun p hp' => (hb0 p hp').2.2
  generalize vtx L0 = tx at btx ⊢
  have hb1 : ∀ p ∈ L0.map (shx tx), Bd 546 p.1 ∧ Bd 546 p.2.1 ∧ Bd 1642 p.2.2 := fun p hp' => by
    obtain ⟨z, hz, rfl⟩ := List.mem_map.mp hp'
    obtain ⟨b1, b2, b3⟩ := hb0 z hz
    exact ⟨b1, b2, Bd.add (b3.mono (show 1095 ≤ 1641 by decide)) (Bd.mul btx b1)⟩
  have bty : Bd 1642 (vty (L0.map (shx tx))) := vty_bd fun p hp' => (hb1 p hp').2.2
  generalize vty (L0.map (shx tx)) = ty at bty ⊢
  obtain ⟨hp, hq, hs1, hr1, ht, hu1⟩ := hS
  have q1 : ∀ {z w : Int}, Bd 0 z → Bd 410 w → Bd 1506 (z + tx * w) := fun h1 h2 => Bd.add (h1.mono (by decide)) (Bd.mul btx h2)
  have q2 : ∀ {z w : Int}, Bd 1506 z → Bd 410 w → Bd 2053 (z + ty * w) := fun h1 h2 => Bd.add (h1.mono (by decide)) (Bd.mul bty h2)
  exact ⟨hp.mono (by decide), hq.mono (by decide), (q2 (q1 hs1 hp) hq).mono (by decide), hr1.mono (by decide), ht.mono (by decide), (q2 (q1 hu1 hr1) ht).mono (by decide)⟩
def fD (T : Tx K mg) (L : List T3) (A : T6) : D := .tup [kD (sett (L.map (im6 A))), plT T (lift6 (vtx (L.map (im6 A))) (vty ((L.map (im6 A)).map (shx (vtx (L.map (im6 A)))))) A).1, plT T (lift6 (vtx (L.map (im6 A))) (vty ((L.map (im6 A)).map (shx (vtx (L.map (im6 A)))))) A).2]
theorem lev_on {L : List T3} {As : List T6} (h : Lev L As) : As.length ≤ 2 ∧ ∀ A ∈ As, On A := by
  rcases h with ⟨A, s, rfl, hA, _⟩ | ⟨A, C, rfl, dA, dC, _⟩
  · exact ⟨(by show 1 ≤ 2; decide), fun F hF => by rw [List.mem_singleton.mp hF]; exact hA⟩
  · refine ⟨(by show 2 ≤ 2; decide), fun F hF => ?_⟩
    simp only [List.mem_cons, List.not_mem_nil, or_false] at hF
    rcases hF with rfl | rfl
    · exact .inl dA
    · exact .inr dC
theorem sett_len (L : List T3) : (sett L).length = L.length := by unfold sett; rw [List.length_map, List.length_map]
def pr_list_form (T : Tx K mg) : Pr := fun ds B k e => ∃ (sb : Bool) (L : List T3), ds = [seqD sb (L.map (plT T))] ∧ SzL L ∧ ∀ p A, Key L p → On A → p = L.map (im6 A) → SzC 410 2100 A → k (.tup [kD p, plT T A.1, plT T A.2]) B
theorem okD_list_form (T : Tx K mg) : FnOk P w K mg base (L2.CX P w) 9 T.a_list_form T.d_list_form P_list_form (spD K (pr_list_form T)) := by
  refine T.F_list_form.okX sc_list_form (spD_len fun ds B k e h => by obtain ⟨sb, L, rfl, hL, hk⟩ := h; rfl) (fun cdv A outer s H vs Q E hr h => ?_)
  have G_level_renamings : FnOk P w K mg base (L2.CX P w) 7 _ _ _ _ := okD_level_renamings T
  have G_settled : FnOk P w K mg base (L2.CX P w) 8 _ _ _ _ := okD_settled T
  obtain ⟨G, ds, B, k, e, hs, hR, ⟨sb, L, rfl, hL, hk⟩, hK, hX⟩ := h
  refine ⟨_, (pss_cons (ps_setLc (i := 1) (te := (tCall (spD K (pr_settled T)) [] E0 (tCons (tVar 0) (tCons (tVar 2) (tCons (tVar 3) tNil))))) (own := [("east", 2), ("north", 3)]) (g := gTup K 2 (gCons (gName 2) (gCons (gName 3) gNil))) (by rfl) sc_list_form.nd rfl rfl (sw_true rfl rfl rfl (by decide +kernel)) (pi_list (pe_call G_level_renamings (hr.mono (by decide)) (by rfl) T.g_level_renamings T.F_level_renamings.kp T.b_level_renamings .nil passL (pa_cons (pv 0) pa_nil))) (blkOk_by (own := [("east", 2), ("north", 3)]) (N := N_list_form) (sc := defScope s_list_form) (by decide +kernel)) (fun _ _ _ _ _ => pg_tup rfl (pgs_cons (pg_name (i := 2) sc_list_form.nd rfl (Or.inl rfl)) (pgs_cons (pg_name (i := 3) sc_list_form.nd rfl (Or.inl rfl)) pgs_nil))) (fun _ _ _ _ _ => pts_nil) (fun _ _ _ _ _ => (pe_call G_settled (hr.mono (by decide)) (by rfl) T.g_settled T.F_settled.kp T.b_settled .nil passL (pa_cons (pv 0) (pa_cons (pv 2) (pa_cons (pv 3) pa_nil))))))
 (pss_cons (ps_if (PW.pt (pw_and (pt_cmpR op_eq (pe_callB call_len_seq (by rfl) T.n_len (by decide +kernel) (pa_cons (pv 1) pa_nil)) pe_int (nomark _)) (pw_and1 (pt_cmpR (op_ltDD hr.units) (pe_ix ix_tup (pe_ix ix_list (pv 1) pe_int (fun _ _ => rfl)) pe_int (fun _ _ => rfl)) (pe_ix ix_tup (pe_ix ix_list (pv 1) pe_int (fun _ _ => rfl)) pe_int (fun _ _ => rfl)) (nomark _)))))
 (pss_one (ps_ret (pe_ix ix_list (pv 1) pe_int (fun _ _ => rfl))))
 pss_nil)
 (pss_one (ps_ret (pe_ix ix_list (pv 1) pe_int (fun _ _ => rfl)))))), run_body (ρ := [some (seqD sb (L.map (plT T))), none, none, none]) hs hR hK hX rfl ?_⟩
  refine ws_seq <| ws_set <| we_lc_dupL (E1 := E0) (fx := fun A : T6 => plT T A.1) (fy := fun A : T6 => plT T A.2) (f := fD T L) (by decide) <| we_call <| wa_cons <| we_var rfl <| wa_nil ⟨sb, L, rfl, hL, fun As hLev hSz => ⟨As, rfl, ?_, fun A hA k' hk' => ?_, ?_⟩⟩
  · have := (lev_on hLev).1
    have : 2 < sizeLine := by decide
    omega
  · exact we_call <| wa_cons <| we_var rfl <| wa_cons <| we_var rfl <| wa_cons <| we_var rfl <| wa_nil ⟨sb, L, A, rfl, hL, (lev_on hLev).2 A hA, hSz A hA, fun _ => hk'⟩
  · rcases hLev with ⟨A, s1, rfl, hA, hE, hs1⟩ | ⟨A, C, rfl, dA, dC, hE, hE2, hn⟩
    · have hS := hSz A (List.mem_cons_self ..)
      refine ws_seq <| ws_if <| wt_and <| wt_test <| we_op <| we_lenL <| wa_cons <| we_var rfl <| wa_nil ⟨_, rfl, we_int <| ro_eqI ⟨_, rfl, fun h => absurd h (show ¬ decide ((1 : Int) = 2) = true by decide), fun _ => ⟨(fun h => nomatch h), fun _ => ws_next ?_⟩⟩⟩
      exact ws_ret <| we_op <| we_var rfl <| we_int <| ro_ixL rfl <| hk _ _ (lev_key1 (.inl ⟨A, s1, rfl, hA, hE, hs1⟩)) (by unfold On; rw [det_lift]; exact hA) (sett_im L A) (sz_lift hL hA hS)
    · have hA : On A := .inl dA
      have hC : On C := .inr dC
      have key := lev_key2 (.inr ⟨A, C, rfl, dA, dC, hE, hE2, hn⟩)
      have hln : (sett (L.map (im6 C))).length = (sett (L.map (im6 A))).length := by rw [sett_len, sett_len, List.length_map, List.length_map]
      refine ws_seq <| ws_if <| wt_and <| wt_test <| we_op <| we_lenL <| wa_cons <| we_var rfl <| wa_nil ⟨_, rfl, we_int <| ro_eqI ⟨_, rfl, fun _ => ?_, fun h => absurd h (show ¬ decide ((2 : Int) = 2) = false by decide)⟩⟩
      refine wt_test <| we_op <| we_op <| we_op <| we_var rfl <| we_int <| ro_ixL rfl <| we_int <| ro_ixT rfl <| we_op <| we_op <| we_var rfl <| we_int <| ro_ixL rfl <| we_int <| ro_ixT rfl <| ro_ltDD (ok_kD _) (ok_kD _) (alike_kD hln) (fun h => nomatch h) (by have := dep_kD (sett (L.map (im6 C))); omega) ⟨_, rfl, fun h1 => ?_, fun h1 => ?_⟩
      · rw [if_pos (show ltK (sett (L.map (im6 C))) (sett (L.map (im6 A))) = true from h1)] at key
        exact ws_ret <| we_op <| we_var rfl <| we_int <| ro_ixL rfl <| hk _ _ key (by unfold On; rw [det_lift]; exact hC) (sett_im L C) (sz_lift hL hC (hSz C (by simp)))
      · rw [if_neg (show ¬ ltK (sett (L.map (im6 C))) (sett (L.map (im6 A))) = true from fun z => by rw [show ltK _ _ = false from h1] at z; exact nomatch z)] at key
        refine ws_next ?_
        exact ws_ret <| we_op <| we_var rfl <| we_int <| ro_ixL rfl <| hk _ _ key (by unfold On; rw [det_lift]; exact hA) (sett_im L A) (sz_lift hL hA (hSz A (by simp)))
theorem gd_pl (T : Tx K mg) (L : List T3) : ∀ x ∈ L.map (plT T), gd T x := fun x hx => by
  obtain ⟨p, _, rfl⟩ := List.mem_map.mp hx
  exact ⟨_, _, _, rfl⟩
def pr_list_key (T : Tx K mg) : Pr := fun ds B k e => ∃ (sb : Bool) (xs : List D), ds = [seqD sb xs] ∧ ((∃ L : List T3, xs = L.map (plT T) ∧ SzL L ∧ ∀ p, Key L p → p.length = L.length → k (kD p) B) ∨ ∃ d, BadAt T xs d ∧ e T.C_BadPlace (some ((["value"] : List Str), [d])) B)
theorem okD_list_key (T : Tx K mg) : FnOk P w K mg base (L2.CX P w) 10 T.a_list_key T.d_list_key P_list_key (spD K (pr_list_key T)) := by
  refine T.F_list_key.okX sc_list_key (spD_len fun ds B k e h => by obtain ⟨sb, xs, rfl, hk⟩ := h; rfl) (fun cdv A outer s H vs Q E hr h => ?_)
  have G_check_places : FnOk P w K mg base (L2.CX P w) 4 _ _ _ _ := okD_check_places T
  have G_list_form : FnOk P w K mg base (L2.CX P w) 9 _ _ _ _ := okD_list_form T
  obtain ⟨G, ds, B, k, e, hs, hR, ⟨sb, xs, rfl, hk⟩, hK, hX⟩ := h
  refine ⟨_, (pss_cons (ps_expr (pe_call G_check_places (hr.mono (by decide)) (by rfl) T.g_check_places T.F_check_places.kp T.b_check_places .nil (passE (E := E)) (pa_cons (pv 0) pa_nil)))
 (pss_one (ps_ret (pe_ix ix_tup (pe_call G_list_form (hr.mono (by decide)) (by rfl) T.g_list_form T.F_list_form.kp T.b_list_form .nil (passE (E := E)) (pa_cons (pv 0) pa_nil)) pe_int (fun _ _ => rfl))))), run_body (ρ := [some (seqD sb xs)]) hs hR hK hX rfl ?_⟩
  rcases hk with ⟨L, rfl, hL, hk⟩ | ⟨d, ⟨j, h1, h2, h3⟩, he⟩
  · refine ws_seq <| ws_drop <| we_callE <| wa_cons <| we_var rfl <| wa_nil ⟨sb, _, rfl, .inl ⟨gd_pl T L, ?_⟩⟩
    exact ws_ret <| we_op <| we_call <| wa_cons <| we_var rfl <| wa_nil ⟨sb, L, rfl, hL, fun p A hp hA ep _ => we_int <| ro_ixT rfl <| hk p hp (by rw [ep, List.length_map])⟩
  · exact ws_seq <| ws_drop <| we_callE <| wa_cons <| we_var rfl <| wa_nil ⟨sb, _, rfl, .inr ⟨j, d, h1, h2, h3, he⟩⟩
def pr_check_both (T : Tx K mg) : Pr := fun ds B k e => ∃ (sb sc : Bool) (xs ys : List D), ds = [seqD sb xs, seqD sc ys] ∧ ((AllG T xs ∧ AllG T ys ∧ xs.length = ys.length ∧ k .non B) ∨ Refs T xs ys e B)
theorem okD_check_both (T : Tx K mg) : FnOk P w K mg base (L2.CX P w) 5 T.a_check_both T.d_check_both P_check_both (spD K (pr_check_both T)) := by
  refine T.F_check_both.okX sc_check_both (spD_len fun ds B k e h => by obtain ⟨sb, sc, xs, ys, rfl, hk⟩ := h; rfl) (fun cdv A outer s H vs Q E hr h => ?_)
  have G_Uneven_init : FnOk P w K mg base (L2.CX P w) 1 _ _ _ _ := ok_Uneven_init T
  have G_check_places : FnOk P w K mg base (L2.CX P w) 4 _ _ _ _ := okD_check_places T
  obtain ⟨G, ds, B, k, e, hs, hR, ⟨sb, sc, xs, ys, rfl, hk⟩, hK, hX⟩ := h
  refine ⟨_, (pss_cons (ps_expr (pe_call G_check_places (hr.mono (by decide)) (by rfl) T.g_check_places T.F_check_places.kp T.b_check_places .nil (passE (E := E)) (pa_cons (pv 0) pa_nil)))
 (pss_cons (ps_expr (pe_call G_check_places (hr.mono (by decide)) (by rfl) T.g_check_places T.F_check_places.kp T.b_check_places .nil (passE (E := E)) (pa_cons (pv 1) pa_nil)))
 (pss_one (ps_if (pt_cmpR op_ne (pe_callB call_len_seq (by rfl) T.n_len (by decide +kernel) (pa_cons (pv 0) pa_nil)) (pe_callB call_len_seq (by rfl) T.n_len (by decide +kernel) (pa_cons (pv 1) pa_nil)) (nomark _))
 (pss_one (ps_raise rfl (takes_of rfl rfl rfl rfl) (pmk_oex T.X_Uneven T.ei_Uneven T.et_Uneven G_Uneven_init (hr.mono (by decide)) T.b_Uneven_init .nil passL rfl T.g_C_Uneven (by exact (pa_cons (pe_callB call_len_seq (by rfl) T.n_len (by decide +kernel) (pa_cons (pv 0) pa_nil)) (pa_cons (pe_callB call_len_seq (by rfl) T.n_len (by decide +kernel) (pa_cons (pv 1) pa_nil)) pa_nil))))))
 pss_nil)))), run_body (ρ := [some (seqD sb xs), some (seqD sc ys)]) hs hR hK hX rfl ?_⟩
  rcases hk with ⟨g1, g2, hl, hk⟩ | ⟨d, ⟨j, h1, h2, h3⟩, he⟩ | ⟨g1, d, ⟨j, h1, h2, h3⟩, he⟩ | ⟨g1, g2, hl, he⟩
  · refine ws_seq <| ws_drop <| we_callE <| wa_cons <| we_var rfl <| wa_nil ⟨sb, _, rfl, .inl ⟨g1, ?_⟩⟩
    refine ws_seq <| ws_drop <| we_callE <| wa_cons <| we_var rfl <| wa_nil ⟨sc, _, rfl, .inl ⟨g2, ?_⟩⟩
    refine ws_if <| wt_test <| we_op <| we_lenSq sb <| wa_cons <| we_var rfl <| wa_nil ⟨_, rfl, we_lenSq sc <| wa_cons <| we_var rfl <| wa_nil ⟨_, rfl, ro_neI ⟨_, rfl, fun h => ?_, fun _ => ws_next hk⟩⟩⟩
    exact absurd (by rw [hl]) (ne_of_dec h)
  · exact ws_seq <| ws_drop <| we_callE <| wa_cons <| we_var rfl <| wa_nil ⟨sb, _, rfl, .inr ⟨j, d, h1, h2, h3, he⟩⟩
  · refine ws_seq <| ws_drop <| we_callE <| wa_cons <| we_var rfl <| wa_nil ⟨sb, _, rfl, .inl ⟨g1, ?_⟩⟩
    exact ws_seq <| ws_drop <| we_callE <| wa_cons <| we_var rfl <| wa_nil ⟨sc, _, rfl, .inr ⟨j, d, h1, h2, h3, he⟩⟩
  · refine ws_seq <| ws_drop <| we_callE <| wa_cons <| we_var rfl <| wa_nil ⟨sb, _, rfl, .inl ⟨g1, ?_⟩⟩
    refine ws_seq <| ws_drop <| we_callE <| wa_cons <| we_var rfl <| wa_nil ⟨sc, _, rfl, .inl ⟨g2, ?_⟩⟩
    refine ws_if <| wt_test <| we_op <| we_lenSq sb <| wa_cons <| we_var rfl <| wa_nil ⟨_, rfl, we_lenSq sc <| wa_cons <| we_var rfl <| wa_nil ⟨_, rfl, ro_neI ⟨_, rfl, fun _ => ?_, fun h => ?_⟩⟩⟩
    · exact ws_raise2 <| wa_cons <| we_lenSq sb <| wa_cons <| we_var rfl <| wa_nil ⟨_, rfl, wa_cons <| we_lenSq sc <| wa_cons <| we_var rfl <| wa_nil ⟨_, rfl, wa_nil ⟨_, _, rfl, he⟩⟩⟩
    · exact absurd (by have := eq_of_dec h; omega) hl
theorem sz_inv {C : T6} (hC : On C) (hS : SzC 410 2100 C) : SzC 410 2514 (inv6 C) := by
  have pm : ∀ {n : Nat} {z : Int}, Bd n z → Bd n (z * det6 C) ∧ Bd n (-det6 C * z) := fun {n z} h => by
    rcases hC with d | d <;> rw [d]
    · rw [Int.mul_one, Int.neg_mul, Int.one_mul]; exact ⟨h, h.neg⟩
    · rw [Int.neg_neg, Int.one_mul, Int.mul_neg, Int.mul_one]; exact ⟨h.neg, h⟩
  have ar : ∀ x y : Int, Bd 410 x → Bd 410 y → Bd 2514 (imT C.1 C.2 (x, y, 0)).2.2 := fun x y hx hy => (im_bdg (g := (x, y, 0)) (M := 2510) hS hC hx hy (bd0 (k := 1)) (by decide) (by decide) (by decide) (by decide)).2.2
  have k1 := (pm hS.t).1
  have k2 := (pm hS.q.neg).1
  have k3 := (pm hS.r.neg).1
  have k4 := (pm hS.p).1
  exact ⟨k1, k2, (pm (ar _ _ k1 k2)).2, k3, k4, (pm (ar _ _ k3 k4)).2⟩
theorem sz_quot {A C : T6} (hA : On A) (hC : On C) (sA : SzC 410 2100 A) (sC : SzC 410 2100 C) : SzC 821 2928 (cm6 (inv6 C) A) := by
  have sI := sz_inv hC sC
  obtain ⟨e1, e2, e3⟩ := im_bdg (g := A.1) (M := 2924) sI (on_inv hC) sA.p sA.q sA.s (by decide) (by decide) (by decide) (by decide)
  obtain ⟨f1, f2, f3⟩ := im_bdg (g := A.2) (M := 2924) sI (on_inv hC) sA.r sA.t sA.u (by decide) (by decide) (by decide) (by decide)
  exact ⟨e1, e2, e3, f1, f2, f3⟩
def pr_renaming_between (T : Tx K mg) : Pr := fun ds B k e => ∃ (p q : List T3) (A C : T6), ds = [.tup [kD p, plT T A.1, plT T A.2], .tup [kD q, plT T C.1, plT T C.2]] ∧ On C ∧ SzC 410 2100 A ∧ SzC 410 2100 C ∧ (p ≠ q → k .non B) ∧ (p = q → k (rn6 T (cm6 (inv6 C) A)) B)
theorem okD_renaming_between (T : Tx K mg) : FnOk P w K mg base (L2.CX P w) 11 T.a_renaming_between T.d_renaming_between P_renaming_between (spD K (pr_renaming_between T)) := by
  refine T.F_renaming_between.okX sc_renaming_between (spD_len fun ds B k e h => by obtain ⟨p, q, A, C, rfl, hC, sA, sC, k1, k2⟩ := h; rfl) (fun cdv A outer s H vs Q E hr h => ?_)
  have G_Renaming_init : FnOk P w K mg base (L2.CX P w) 5 _ _ _ _ := okD_Renaming_init T
  have G_Renaming_invert : FnOk P w K mg base (L2.CX P w) 10 _ _ _ _ := okD_Renaming_invert T
  have G_Renaming_mul : FnOk P w K mg base (L2.CX P w) 9 _ _ _ _ := okD_Renaming_mul T
  obtain ⟨G, ds, B, k, e, hs, hR, ⟨p, q, A, C, rfl, hC, sA, sC, k1, k2⟩, hK, hX⟩ := h
  refine ⟨_, (pss_cons (ps_asg (pv 0) (pg_tup rfl (pgs_cons (pg_name (i := 2) sc_renaming_between.nd rfl (.inl rfl)) (pgs_cons (pg_name (i := 3) sc_renaming_between.nd rfl (.inl rfl)) (pgs_cons (pg_name (i := 4) sc_renaming_between.nd rfl (.inl rfl)) pgs_nil)))))
 (pss_cons (ps_asg (pv 1) (pg_tup rfl (pgs_cons (pg_name (i := 5) sc_renaming_between.nd rfl (.inl rfl)) (pgs_cons (pg_name (i := 6) sc_renaming_between.nd rfl (.inl rfl)) (pgs_cons (pg_name (i := 7) sc_renaming_between.nd rfl (.inl rfl)) pgs_nil)))))
 (pss_cons (ps_if (pt_cmpR (op_neD hr.units) (pv 2) (pv 5) (nomark _))
 (pss_one (ps_ret pe_non))
 pss_nil)
 (pss_one (ps_ret (pe_op (op_ownO T.O_Renaming_Mult G_Renaming_mul (hr.mono (by decide)) T.b_Renaming_mul passL) (pe_un (un_invO T.m_Renaming_invert T.i_Renaming_invert G_Renaming_invert (hr.mono (by decide)) T.b_Renaming_invert passL) (pe_make T.M_Renaming G_Renaming_init (hr.mono (by decide)) (by rfl) T.g_C_Renaming T.b_Renaming_init .nil passL (pa_cons (pv 6) (pa_cons (pv 7) pa_nil)))) (pe_make T.M_Renaming G_Renaming_init (hr.mono (by decide)) (by rfl) T.g_C_Renaming T.b_Renaming_init .nil passL (pa_cons (pv 3) (pa_cons (pv 4) pa_nil))))))))), run_body (ρ := [some (.tup [kD p, plT T A.1, plT T A.2]), some (.tup [kD q, plT T C.1, plT T C.2]), none, none, none, none, none, none]) hs hR hK hX rfl ?_⟩
  refine ws_seq (ws_asg (we_var rfl (wg_tup rfl (wgs_cons (wg_name (wgs_cons (wg_name (wgs_cons (wg_name (wgs_nil ?_))))))))))
  refine ws_seq (ws_asg (we_var rfl (wg_tup rfl (wgs_cons (wg_name (wgs_cons (wg_name (wgs_cons (wg_name (wgs_nil ?_))))))))))
  refine ws_seq <| ws_if <| wt_test <| we_op <| we_var rfl <| we_var rfl <| ro_neD (ok_kD p) (ok_kD q) (sh_kD p) (sh_kD q) ?_
  rw [eqv_kD]
  refine ⟨_, rfl, fun h => ?_, fun h => ?_⟩
  · exact ws_ret (we_non (k1 (by simpa using h)))
  · have e1 : p = q := by simpa using h
    refine ws_next ?_
    exact ws_ret <| we_op <| we_invR0 T <| we_make <| wa_cons <| we_var rfl <| wa_cons <| we_var rfl <| wa_nil ⟨_, _, rfl, .inl ⟨_, _, _, _, _, _, rfl, rfl, C, rfl, C, rfl, sC.sz (by decide) (by decide), fun _ => we_make <| wa_cons <| we_var rfl <| wa_cons <| we_var rfl <| wa_nil ⟨_, _, rfl, .inl ⟨_, _, _, _, _, _, rfl, rfl, ro_ownR T (A := inv6 C) (C := A) ⟨_, _, rfl, (sz_inv hC sC).sz (by decide) (by decide), sA.sz (by decide) (by decide), k2 e1⟩⟩⟩, fun z => absurd hC z⟩⟩
def AlikeL3 (L M : List T3) : Prop := ∃ A, On A ∧ M = L.map (im6 A)
def pr_alike (T : Tx K mg) : Pr := fun ds B k e => ∃ (sb sc : Bool) (xs ys : List D), ds = [seqD sb xs, seqD sc ys] ∧ ((∃ L M : List T3, xs = L.map (plT T) ∧ ys = M.map (plT T) ∧ SzL L ∧ SzL M ∧ L.length = M.length ∧ (AlikeL3 L M → ∀ F, On F → M = L.map (im6 F) → SzC 821 2928 F → k (rn6 T F) B) ∧ (¬ AlikeL3 L M → k .non B)) ∨ Refs T xs ys e B)
theorem okD_alike (T : Tx K mg) : FnOk P w K mg base (L2.CX P w) 12 T.a_alike T.d_alike P_alike (spD K (pr_alike T)) := by
  refine T.F_alike.okX sc_alike (spD_len fun ds B k e h => by obtain ⟨sb, sc, xs, ys, rfl, hk⟩ := h; rfl) (fun cdv A outer s H vs Q E hr h => ?_)
  have G_check_both : FnOk P w K mg base (L2.CX P w) 5 _ _ _ _ := okD_check_both T
  have G_list_form : FnOk P w K mg base (L2.CX P w) 9 _ _ _ _ := okD_list_form T
  have G_renaming_between : FnOk P w K mg base (L2.CX P w) 11 _ _ _ _ := okD_renaming_between T
  obtain ⟨G, ds, B, k, e, hs, hR, ⟨sb, sc, xs, ys, rfl, hk⟩, hK, hX⟩ := h
  refine ⟨_, (pss_cons (ps_expr (pe_call G_check_both (hr.mono (by decide)) (by rfl) T.g_check_both T.F_check_both.kp T.b_check_both .nil (passE (E := E)) (pa_cons (pv 0) (pa_cons (pv 1) pa_nil))))
 (pss_one (ps_ret (pe_call G_renaming_between (hr.mono (by decide)) (by rfl) T.g_renaming_between T.F_renaming_between.kp T.b_renaming_between .nil (passE (E := E)) (pa_cons (pe_call G_list_form (hr.mono (by decide)) (by rfl) T.g_list_form T.F_list_form.kp T.b_list_form .nil (passE (E := E)) (pa_cons (pv 0) pa_nil)) (pa_cons (pe_call G_list_form (hr.mono (by decide)) (by rfl) T.g_list_form T.F_list_form.kp T.b_list_form .nil (passE (E := E)) (pa_cons (pv 1) pa_nil)) pa_nil)))))), run_body (ρ := [some (seqD sb xs), some (seqD sc ys)]) hs hR hK hX rfl ?_⟩
  rcases hk with ⟨L, M, rfl, rfl, hL, hM, hl, k1, k2⟩ | hk
  · refine ws_seq <| ws_drop <| we_callE <| wa_cons <| we_var rfl <| wa_cons <| we_var rfl <| wa_nil ⟨sb, sc, _, _, rfl, .inl ⟨gd_pl T L, gd_pl T M, by rw [List.length_map, List.length_map, hl], ?_⟩⟩
    refine ws_ret <| we_call <| wa_cons <| we_call <| wa_cons <| we_var rfl <| wa_nil ⟨sb, L, rfl, hL, fun p A hp hA ep sA => wa_cons <| we_call <| wa_cons <| we_var rfl <| wa_nil ⟨sc, M, rfl, hM, fun q C hq hC eq sC => wa_nil ⟨p, q, A, C, rfl, hC, sA, sC, fun hn => ?_, fun he => ?_⟩⟩⟩
    · exact k2 fun z => hn ((key_alike hp hq).mpr z)
    · refine k1 ((key_alike hp hq).mp he) _ (on_cm (on_inv hC) hA) ?_ (sz_quot hA hC sA sC)
      rw [← map_cm, ← ep, he, eq, map_cm, cm_inv hC, map_id6]
  · exact ws_seq <| ws_drop <| we_callE <| wa_cons <| we_var rfl <| wa_cons <| we_var rfl <| wa_nil ⟨sb, sc, _, _, rfl, .inr hk⟩
end
end AW

set_option linter.all false
set_option maxRecDepth 100000
set_option maxHeartbeats 8000000
namespace AW
open PySem PySem.Spec PyProof.Rows L2
variable [Tbs]
section
variable {P : Program} {w : World} {K : PySem.W.Frag} {mg : Str → Option Value} {base : Heap}
abbrev iD (o : List Int) : D := .lst (o.map D.int)
def insL (o : List Int) (n j : Nat) : List Int := o.take j ++ [(n : Int)] ++ o.drop j
def ordL : Nat → List (List Int)
  | 0 => [[]]
  | n + 1 => (ordL n).flatMap fun o => (List.range (n + 1)).map (insL o n)
theorem ordL_mem : ∀ {n : Nat} {o : List Int}, o ∈ ordL n → o.length = n ∧ ∀ j ∈ o, 0 ≤ j ∧ j < n
  | 0, o, h => by
    have : o = [] := by simpa [ordL] using h
    subst this
    exact ⟨rfl, fun j hj => by simp at hj⟩
  | n + 1, o, h => by
    unfold ordL at h
    obtain ⟨r, hr, h⟩ := List.mem_flatMap.mp h
    obtain ⟨j, hj, rfl⟩ := List.mem_map.mp h
    obtain ⟨e1, e2⟩ := ordL_mem hr
    have hj := List.mem_range.mp hj
    constructor
    · unfold insL
      rw [List.length_append, List.length_append, List.length_take, List.length_drop, List.length_singleton, e1]
      omega
    · intro z hz
      unfold insL at hz
      rcases List.mem_append.mp hz with hz | hz
      · rcases List.mem_append.mp hz with hz | hz
        · have := e2 z (List.mem_of_mem_take hz)
          omega
        · have : z = (n : Int) := by simpa using hz
          omega
      · have := e2 z (List.mem_of_mem_drop hz)
        omega
theorem cut_ins (o : List Int) (n j : Nat) : cutD (o.map D.int) none (some (0 + (j : Int))) ++ [D.int (0 + (n : Int))] ++ cutD (o.map D.int) (some (0 + (j : Int))) none = (insL o n j).map D.int := by
  unfold cutD insL
  rw [Int.zero_add, Int.zero_add, HT.sIx_none, HT.sIx_none, HT.sIx_nat, HT.sIx_nat, List.length_map, List.drop_zero, Nat.sub_zero, List.map_append, List.map_append, List.map_take, List.map_drop]
  have e1 : (o.map D.int).take (min j o.length) = (o.map D.int).take j := by
    rw [List.take_eq_take_iff, List.length_map]
    omega
  have e2 : ((o.map D.int).drop (min j o.length)).take (o.length - min j o.length) = (o.map D.int).drop j := by
    rw [List.take_of_length_le (by rw [List.length_drop, List.length_map]; exact Nat.le_refl _)]
    rcases Nat.le_total j o.length with h | h
    · rw [Nat.min_eq_left h]
    · rw [Nat.min_eq_right h, List.drop_of_length_le (by rw [List.length_map]; exact Nat.le_refl _), List.drop_of_length_le (by rw [List.length_map]; exact h)]
  rw [e1, e2]
  rfl
theorem ordL_step (n : Nat) : ((ordL n).flatMap fun o => (List.range (n + 1)).map fun j => iD (insL o n j)) = (ordL (n + 1)).map iD := by
  show _ = ((ordL n).flatMap fun o => (List.range (n + 1)).map (insL o n)).map iD
  rw [List.map_flatMap]
  congr 1
  funext o
  rw [List.map_map]
  rfl
def pr_orders (T : Tx K mg) : Pr := fun ds B k e => ∃ n : Nat, ds = [.int (n : Int)] ∧ n ≤ 4 ∧ k (.lst ((ordL n).map iD)) B
theorem okD_orders (T : Tx K mg) : FnOk P w K mg base (L2.CX P w) 1 T.a_orders T.d_orders P_orders (spD K (pr_orders T)) := by
  refine T.F_orders.okX sc_orders (spD_len fun ds B k e h => by obtain ⟨n, rfl, hn, hk⟩ := h; rfl) (fun cdv A outer s H vs Q E hr h => ?_)
  obtain ⟨G, ds, B, k, e, hs, hR, ⟨n, rfl, hn, hk⟩, hK, hX⟩ := h
  refine ⟨_, (pss_cons (ps_set (i := 1) sc_orders.nd rfl (.inl rfl) (pe_lst (pa_cons (pe_lst pa_nil) pa_nil)))
 (pss_cons (ps_for (passes_of rfl) rfl (pi_range1 (by rfl) T.n_range (pa_cons (pv 0) pa_nil)) (pg_name (i := 2) sc_orders.nd rfl (.inr rfl))
 (pss_one (ps_setLc2 (i := 1) (te := (tOp rCat (tOp rCat (tSl (rSlL K) (tVar 3) tNoPart (tPart (tVar 4))) (tLst (tCons (tVar 2) tNil))) (tSl (rSlL K) (tVar 3) (tPart (tVar 4)) tNoPart))) (own := [("order", 3), ("at", 4)]) (vs1 := [4]) (g := gName 3) (g1 := gName 4) (by rfl) sc_orders.nd rfl rfl (sw_true rfl rfl rfl (by decide +kernel)) (pi_list (pv 1)) (blkOk_by (own := [("order", 3), ("at", 4)]) (N := N_orders) (sc := defScope s_orders) (by decide +kernel)) (by decide) (fun _ _ _ _ _ => pg_name (i := 3) sc_orders.nd rfl (Or.inl rfl)) (fun _ _ _ _ _ => pts_nil) (fun _ _ _ _ _ => (pi_range1 (by rfl) T.n_range (pa_cons (pe_op op_add (pv 2) pe_int) pa_nil))) (fun _ _ _ _ _ => pg_name (i := 4) sc_orders.nd rfl (Or.inl rfl)) (fun _ _ _ _ _ => pts_nil) (fun _ _ _ _ _ => (pe_op op_cat (pe_op op_cat (pe_slice sl_list (pv 3) po_none (po_some (pv 4))) (pe_lst (pa_cons (pv 2) pa_nil))) (pe_slice sl_list (pv 3) (po_some (pv 4)) po_none))))))
 (pss_one (ps_ret (pv 1))))), run_body (ρ := [some (.int (n : Int)), none, none, none, none]) hs hR hK hX rfl ?_⟩
  refine ws_seq (ws_set (we_lst (wa_cons (we_lst (wa_nil ⟨Nat.le_of_ble_eq_true rfl, (wa_nil ⟨Nat.le_of_ble_eq_true rfl, ?_⟩)⟩)))))
  refine ws_cut (fun ρ' B' => (∃ o2, ρ' = [some (.int (n : Int)), some (.lst ((ordL n).map iD)), o2, none, none]) ∧ B = B') ?_ ?_
  · refine ws_for_range1 <| wa_cons <| we_var rfl <| wa_nil ⟨n, rfl, by omega, by omega, fun i ρ' B' => (∃ o2, ρ' = [some (.int (n : Int)), some (.lst ((ordL i).map iD)), o2, none, none]) ∧ B = B', ⟨⟨_, rfl⟩, rfl⟩, fun i ρ' B' hi hI => ?_, fun ρ' B' hI => ?_⟩
    · obtain ⟨⟨o2, rfl⟩, rfl⟩ := hI
      rw [Int.toNat_natCast] at hi
      have hi4 : i < 4 := by omega
      refine wg_name ?_
      refine ws_set <| we_lc2LR (E1 := E0) (f := iD) (gg := fun o j => iD (insL o i j)) (n := fun _ => i + 1) (by decide) <| we_var rfl ⟨ordL i, rfl, ?_, fun o ho => ⟨(by show i + 1 < 2 ^ 60; omega), fun ka hka => ?_⟩, fun o ho j hj k' hk' => ?_, ?_⟩
      · have h4 : i = 0 ∨ i = 1 ∨ i = 2 ∨ i = 3 := by omega
        rcases h4 with rfl | rfl | rfl | rfl
        · show 1 < sizeLine; decide
        · show 2 < sizeLine; decide
        · show 6 < sizeLine; decide
        · show 24 < sizeLine; decide
      · refine wa_cons <| we_op <| we_var rfl <| we_int <| ro_i0 <| wa_nil ?_
        have e : 0 + (i : Int) + 1 = ((i + 1 : Nat) : Int) := by omega
        rw [e]
        exact hka
      · have hlo := (ordL_mem ho).1
        have h8 : 100 < sizeLine := by decide
        refine we_op <| we_op <| we_slL <| we_var rfl ⟨_, rfl, wo_no <| wo_part <| we_var rfl ⟨_, rfl, we_lst <| wa_cons <| we_var rfl <| wa_nil ⟨Nat.le_of_ble_eq_true rfl, ro_catL ?_ <| we_slL <| we_var rfl ⟨_, rfl, wo_part <| we_var rfl ⟨_, rfl, wo_no <| ro_catL ?_ ?_⟩⟩⟩⟩⟩
        · have := (show (cutD (o.map D.int) none (some (0 + (j : Int)))).length ≤ (o.map D.int).length from by unfold cutD; rw [List.length_take, List.length_drop]; omega)
          rw [List.length_map] at this
          show _ + 1 ≤ _
          omega
        · have h1 := (show (cutD (o.map D.int) none (some (0 + (j : Int)))).length ≤ (o.map D.int).length from by unfold cutD; rw [List.length_take, List.length_drop]; omega)
          have h2 := (show (cutD (o.map D.int) (some (0 + (j : Int))) none).length ≤ (o.map D.int).length from by unfold cutD; rw [List.length_take, List.length_drop]; omega)
          rw [List.length_map] at h1 h2
          rw [List.length_append]
          show _ + 1 + _ ≤ _
          omega
        · rw [cut_ins]
          exact hk'
      · rw [ordL_step]
        exact ⟨⟨_, rfl⟩, rfl⟩
    · rw [Int.toNat_natCast] at hI
      exact hI
  rintro _ _ ⟨⟨o2, rfl⟩, rfl⟩
  exact ws_ret (we_var rfl hk)
theorem ltK_trans {p q r : List T3} (h : ltK p q = true) (g : ltK q r = true) : ltK p r = true := by
  rw [ltK_toks] at *
  exact PyProof.Rows.lex_trans _ _ _ h g
def pick3 (L : List T3) (o : List Int) : List T3 := o.map fun i => L.getD i.toNat (0, 0, 0)
theorem pick_get {L : List T3} {n : Nat} {o : List Int} (ho : o ∈ ordL n) (hl : L.length = n) {j : Int} (hj : j ∈ o) : L[j.toNat]? = some (L.getD j.toNat (0, 0, 0)) ∧ L.getD j.toNat (0, 0, 0) ∈ L := by
  have := (ordL_mem ho).2 j hj
  have hlt : j.toNat < L.length := by omega
  have e : L[j.toNat]? = some L[j.toNat] := List.getElem?_eq_getElem hlt
  have e2 : L.getD j.toNat (0, 0, 0) = L[j.toNat] := by
    rw [List.getD_eq_getElem?_getD, e]
    rfl
  rw [e2]
  exact ⟨e, List.getElem_mem hlt⟩
theorem sz_pick {L : List T3} {o : List Int} (ho : o ∈ ordL L.length) (hL : SzL L) : SzL (pick3 L o) := by
  refine ⟨by unfold pick3; rw [List.length_map, (ordL_mem ho).1]; exact hL.len, fun p hp => ?_⟩
  unfold pick3 at hp
  obtain ⟨j, hj, rfl⟩ := List.mem_map.mp hp
  exact hL.b _ (pick_get ho rfl hj).2
def LotK (L p : List T3) : Prop := (∃ o ∈ ordL L.length, Key (pick3 L o) p) ∧ ∀ o ∈ ordL L.length, ∀ q, Key (pick3 L o) q → ltK q p = false
theorem lotk_uniq {L p q : List T3} (h : LotK L p) (g : LotK L q) : p = q := by
  obtain ⟨⟨o, ho, hp⟩, h⟩ := h
  obtain ⟨⟨o', ho', hq⟩, g⟩ := g
  exact ltK_total (g o ho p hp) (h o' ho' q hq)
abbrev fo (T : Tx K mg) (p : List T3) (A : T6) : D := .tup [kD p, plT T A.1, plT T A.2]
def BestS (T : Tx K mg) (L : List T3) (os : List (List Int)) (d : D) : Prop := ∃ p A o, d = .tup [fo T p A, iD o] ∧ o ∈ ordL L.length ∧ Key (pick3 L o) p ∧ On A ∧ p = (pick3 L o).map (im6 A) ∧ SzC 410 2100 A ∧ ∀ o' ∈ os, ∀ q, Key (pick3 L o') q → ltK q p = false
def pr_lot_form (T : Tx K mg) : Pr := fun ds B k e => ∃ (sb : Bool) (L : List T3), ds = [seqD sb (L.map (plT T))] ∧ SzL L ∧ L.length ≤ 4 ∧ ∀ d, BestS T L (ordL L.length) d → k d B
theorem okD_lot_form (T : Tx K mg) : FnOk P w K mg base (L2.CX P w) 10 T.a_lot_form T.d_lot_form P_lot_form (spD K (pr_lot_form T)) := by
  refine T.F_lot_form.okX sc_lot_form (spD_len fun ds B k e h => by obtain ⟨sb, L, rfl, hL, h4, hk⟩ := h; rfl) (fun cdv A outer s H vs Q E hr h => ?_)
  have G_list_form : FnOk P w K mg base (L2.CX P w) 9 _ _ _ _ := okD_list_form T
  have G_orders : FnOk P w K mg base (L2.CX P w) 1 _ _ _ _ := okD_orders T
  obtain ⟨G, ds, B, k, e, hs, hR, ⟨sb, L, rfl, hL, h4, hk⟩, hK, hX⟩ := h
  refine ⟨_, (pss_cons (ps_set (i := 1) sc_lot_form.nd rfl (.inl rfl) pe_non)
 (pss_cons (ps_for (passes_of rfl) rfl (pi_list (pe_call G_orders (hr.mono (by decide)) (by rfl) T.g_orders T.F_orders.kp T.b_orders .nil passL (pa_cons (pe_callB call_len_seq (by rfl) T.n_len (by decide +kernel) (pa_cons (pv 0) pa_nil)) pa_nil))) (pg_name (i := 2) sc_lot_form.nd rfl (.inl rfl))
 (pss_cons (ps_set (i := 3) sc_lot_form.nd rfl (.inl rfl) (pe_call G_list_form (hr.mono (by decide)) (by rfl) T.g_list_form T.F_list_form.kp T.b_list_form .nil passL (pa_cons (pe_lc (te := (tOp (rIx K) (tVar 0) (tVar 4))) (own := [("at", 4)]) (g := gName 4) (by rfl) sc_lot_form.nd (pi_list (pv 2)) (blkOk_by (own := [("at", 4)]) (N := N_lot_form) (sc := defScope s_lot_form) (by decide +kernel)) (fun _ _ _ _ _ => pg_name (i := 4) sc_lot_form.nd rfl (Or.inl rfl)) (fun _ _ _ _ _ => pts_nil) (fun _ _ _ _ _ => (pe_ix ix_seq (pv 0) (pv 4) (fun _ _ => rfl)))) pa_nil)))
 (pss_one (ps_if (PW.pt (pw_or (pt_cmp (pc_isN (pv 1))) (pw_or1 (pt_cmpR (op_ltDD hr.units) (pe_ix ix_tup (pv 3) pe_int (fun _ _ => rfl)) (pe_ix ix_tup (pe_ix ix_tup (pv 1) pe_int (fun _ _ => rfl)) pe_int (fun _ _ => rfl)) (nomark _)))))
 (pss_one (ps_set (i := 1) sc_lot_form.nd rfl (.inl rfl) (pe_tup (pa_cons (pv 3) (pa_cons (pv 2) pa_nil)))))
 pss_nil))))
 (pss_one (ps_ret (pv 1))))), run_body (ρ := [some (seqD sb (L.map (plT T))), none, none, none, none]) hs hR hK hX rfl ?_⟩
  refine ws_seq <| ws_set <| we_non ?_
  have lenO : ∀ o : List Int, o ∈ ordL L.length → o.length < sizeLine := fun o ho => by
    rw [(ordL_mem ho).1]
    have : 100 < sizeLine := by decide
    omega
  refine ws_cut (fun ρ' B' => (∃ d o2 o3, ρ' = [some (seqD sb (L.map (plT T))), some d, o2, o3, none] ∧ BestS T L (ordL L.length) d) ∧ B = B') ?_ ?_
  · refine ws_for_list <| we_call <| wa_cons <| we_lenSq sb <| wa_cons <| we_var rfl <| wa_nil ⟨_, rfl, wa_nil ⟨L.length, by rw [List.length_map], h4, _, rfl, fun i ρ' B' => (∃ d o2 o3, ρ' = [some (seqD sb (L.map (plT T))), some d, o2, o3, none] ∧ ((i = 0 ∧ d = .non) ∨ BestS T L ((ordL L.length).take i) d)) ∧ B = B', ⟨⟨_, _, _, rfl, .inl ⟨rfl, rfl⟩⟩, rfl⟩, fun i x ρ' B' hx hI => ?_, fun ρ' B' hI => ?_⟩⟩
    · obtain ⟨⟨d, o2, o3, rfl, hS⟩, rfl⟩ := hI
      rw [List.getElem?_map] at hx
      obtain ⟨o, ho, rfl⟩ := Option.map_eq_some_iff.mp hx
      have hm := List.mem_of_getElem? ho
      refine wg_name ?_
      refine ws_seq <| ws_set <| we_call <| wa_cons <| we_lc_toldL (E1 := E0) (f := D.int) (g := fun j => plT T (L.getD j.toNat (0, 0, 0))) <| we_var rfl ⟨o, rfl, lenO o hm, fun j hj k' hk' => ?_, ?_⟩
      · have hg := (pick_get hm rfl hj).1
        have h0 := ((ordL_mem hm).2 j hj).1
        exact we_op <| we_var rfl <| we_var rfl <| ro_ixSq sb (by rw [← Int.toNat_of_nonneg h0]; exact atI_nat (by rw [List.getElem?_map, hg]; rfl)) hk'
      have ep : o.map (fun j => plT T (L.getD j.toNat (0, 0, 0))) = (pick3 L o).map (plT T) := by unfold pick3; rw [List.map_map]; rfl
      rw [ep]
      refine wa_nil ⟨false, pick3 L o, rfl, sz_pick hm hL, fun p A hp hA ea sA => ?_⟩
      have stp : ∀ o' ∈ (ordL L.length).take (i + 1), o' ∈ (ordL L.length).take i ∨ o' = o := fun o' h => by
        rw [List.take_add_one, ho] at h
        rcases List.mem_append.mp h with h | h
        · exact .inl h
        · exact .inr (by simpa using h)
      rcases hS with ⟨rfl, rfl⟩ | ⟨p0, A0, o0, rfl, m0, k0, a0, e0, s0, b0⟩
      · refine ws_if <| wt_or <| wt_val <| we_isN <| we_var rfl ⟨_, rfl, fun _ => ⟨fun _ => ?_, fun h => nomatch h⟩, fun h => nomatch h⟩
        refine ws_set <| we_tup <| wa_cons <| we_var rfl <| wa_cons <| we_var rfl <| wa_nil ⟨Nat.le_of_ble_eq_true rfl, ⟨⟨_, _, _, rfl, .inr ⟨p, A, o, rfl, hm, hp, hA, ea, sA, fun o' ho' q hq => ?_⟩⟩, rfl⟩⟩
        rcases stp o' ho' with h | h
        · simp at h
        · subst h
          rw [key_uniq hq hp]
          exact ltK_irrefl p
      · have hln : p.length = p0.length := by rw [ea, e0, List.length_map, List.length_map]; unfold pick3; rw [List.length_map, List.length_map, (ordL_mem hm).1, (ordL_mem m0).1]
        refine ws_if <| wt_or <| wt_val <| we_isN <| we_var rfl ⟨_, rfl, (fun h => nomatch h), fun _ => ?_⟩
        refine wt_test <| we_op <| we_op <| we_var rfl <| we_int <| ro_ixT rfl <| we_op <| we_op <| we_var rfl <| we_int <| ro_ixT rfl <| we_int <| ro_ixT rfl <| ro_ltDD (ok_kD _) (ok_kD _) (alike_kD hln) (fun h => nomatch h) (by have := dep_kD p; omega) ⟨_, rfl, fun h1 => ?_, fun h1 => ?_⟩
        · have h1 : ltK p p0 = true := h1
          refine ws_set <| we_tup <| wa_cons <| we_var rfl <| wa_cons <| we_var rfl <| wa_nil ⟨Nat.le_of_ble_eq_true rfl, ⟨⟨_, _, _, rfl, .inr ⟨p, A, o, rfl, hm, hp, hA, ea, sA, fun o' ho' q hq => ?_⟩⟩, rfl⟩⟩
          rcases stp o' ho' with h | h
          · cases e : ltK q p with
            | false => rfl
            | true =>
              have := ltK_trans e h1
              rw [b0 o' h q hq] at this
              cases this
          · subst h
            rw [key_uniq hq hp]
            exact ltK_irrefl p
        · have h1 : ltK p p0 = false := h1
          refine ws_next ⟨⟨_, _, _, rfl, .inr ⟨p0, A0, o0, rfl, m0, k0, a0, e0, s0, fun o' ho' q hq => ?_⟩⟩, rfl⟩
          rcases stp o' ho' with h | h
          · exact b0 o' h q hq
          · subst h
            rw [key_uniq hq hp]
            exact h1
    · obtain ⟨⟨d, o2, o3, rfl, hS⟩, rfl⟩ := hI
      refine ⟨⟨d, o2, o3, rfl, ?_⟩, rfl⟩
      rw [List.length_map, List.take_length] at hS
      rcases hS with ⟨h0, _⟩ | hS
      · exfalso
        have h5 : L.length = 0 ∨ L.length = 1 ∨ L.length = 2 ∨ L.length = 3 ∨ L.length = 4 := by omega
        rcases h5 with h | h | h | h | h <;> rw [h] at h0 <;> exact absurd h0 (by decide)
      · exact hS
  rintro _ _ ⟨⟨d, o2, o3, rfl, hS⟩, rfl⟩
  exact ws_ret (we_var rfl (hk d hS))
theorem best_lotk {T : Tx K mg} {L : List T3} {d : D} (h : BestS T L (ordL L.length) d) : ∃ p A o, d = .tup [fo T p A, iD o] ∧ o ∈ ordL L.length ∧ On A ∧ p = (pick3 L o).map (im6 A) ∧ SzC 410 2100 A ∧ LotK L p := by
  obtain ⟨p, A, o, rfl, m0, k0, a0, e0, s0, b0⟩ := h
  exact ⟨p, A, o, rfl, m0, a0, e0, s0, ⟨o, m0, k0⟩, b0⟩
def pr_lot_key (T : Tx K mg) : Pr := fun ds B k e => ∃ (sb : Bool) (xs : List D), ds = [seqD sb xs] ∧ ((∃ L : List T3, xs = L.map (plT T) ∧ SzL L ∧ L.length ≤ 4 ∧ ∀ p, LotK L p → p.length = L.length → k (kD p) B) ∨ ∃ d, BadAt T xs d ∧ e T.C_BadPlace (some ((["value"] : List Str), [d])) B)
theorem okD_lot_key (T : Tx K mg) : FnOk P w K mg base (L2.CX P w) 11 T.a_lot_key T.d_lot_key P_lot_key (spD K (pr_lot_key T)) := by
  refine T.F_lot_key.okX sc_lot_key (spD_len fun ds B k e h => by obtain ⟨sb, xs, rfl, hk⟩ := h; rfl) (fun cdv A outer s H vs Q E hr h => ?_)
  have G_check_places : FnOk P w K mg base (L2.CX P w) 4 _ _ _ _ := okD_check_places T
  have G_lot_form : FnOk P w K mg base (L2.CX P w) 10 _ _ _ _ := okD_lot_form T
  obtain ⟨G, ds, B, k, e, hs, hR, ⟨sb, xs, rfl, hk⟩, hK, hX⟩ := h
  refine ⟨_, (pss_cons (ps_expr (pe_call G_check_places (hr.mono (by decide)) (by rfl) T.g_check_places T.F_check_places.kp T.b_check_places .nil (passE (E := E)) (pa_cons (pv 0) pa_nil)))
 (pss_one (ps_ret (pe_ix ix_tup (pe_ix ix_tup (pe_call G_lot_form (hr.mono (by decide)) (by rfl) T.g_lot_form T.F_lot_form.kp T.b_lot_form .nil (passE (E := E)) (pa_cons (pv 0) pa_nil)) pe_int (fun _ _ => rfl)) pe_int (fun _ _ => rfl))))), run_body (ρ := [some (seqD sb xs)]) hs hR hK hX rfl ?_⟩
  rcases hk with ⟨L, rfl, hL, h4, hk⟩ | ⟨d, ⟨j, h1, h2, h3⟩, he⟩
  · refine ws_seq <| ws_drop <| we_callE <| wa_cons <| we_var rfl <| wa_nil ⟨sb, _, rfl, .inl ⟨gd_pl T L, ?_⟩⟩
    refine ws_ret <| we_op <| we_op <| we_call <| wa_cons <| we_var rfl <| wa_nil ⟨sb, L, rfl, hL, h4, fun d hd => ?_⟩
    obtain ⟨p, A, o, rfl, m0, a0, e0, s0, lk⟩ := best_lotk hd
    exact we_int <| ro_ixT rfl <| we_int <| ro_ixT rfl <| hk p lk (by rw [e0, List.length_map]; unfold pick3; rw [List.length_map, (ordL_mem m0).1])
  · exact ws_seq <| ws_drop <| we_callE <| wa_cons <| we_var rfl <| wa_nil ⟨sb, _, rfl, .inr ⟨j, d, h1, h2, h3, he⟩⟩
def idx (o o' : List Int) (n : Nat) : List Int := (List.range n).foldl (fun acc i => acc.set (o.getD i 0).toNat (o'.getD i 0)) (List.replicate o.length 0)
def pr_alike_lots (T : Tx K mg) : Pr := fun ds B k e => ∃ (sb sc : Bool) (xs ys : List D), ds = [seqD sb xs, seqD sc ys] ∧ ((∃ L M : List T3, xs = L.map (plT T) ∧ ys = M.map (plT T) ∧ SzL L ∧ SzL M ∧ L.length = M.length ∧ L.length ≤ 4 ∧ ∀ p q, LotK L p → LotK M q → (p ≠ q → k .non B) ∧ (p = q → ∀ F o o', o ∈ ordL L.length → o' ∈ ordL M.length → On F → pick3 M o' = (pick3 L o).map (im6 F) → SzC 821 2928 F → k (.tup [rn6 T F, iD (idx o o' o.length)]) B)) ∨ Refs T xs ys e B)
theorem okD_alike_lots (T : Tx K mg) : FnOk P w K mg base (L2.CX P w) 13 T.a_alike_lots T.d_alike_lots P_alike_lots (spD K (pr_alike_lots T)) := by
  refine T.F_alike_lots.okX sc_alike_lots (spD_len fun ds B k e h => by obtain ⟨sb, sc, xs, ys, rfl, hk⟩ := h; rfl) (fun cdv A outer s H vs Q E hr h => ?_)
  have G_check_both : FnOk P w K mg base (L2.CX P w) 5 _ _ _ _ := okD_check_both T
  have G_lot_form : FnOk P w K mg base (L2.CX P w) 10 _ _ _ _ := okD_lot_form T
  have G_renaming_between : FnOk P w K mg base (L2.CX P w) 11 _ _ _ _ := okD_renaming_between T
  obtain ⟨G, ds, B, k, e, hs, hR, ⟨sb, sc, xs, ys, rfl, hk⟩, hK, hX⟩ := h
  refine ⟨_, (pss_cons (ps_expr (pe_call G_check_both (hr.mono (by decide)) (by rfl) T.g_check_both T.F_check_both.kp T.b_check_both .nil (passE (E := E)) (pa_cons (pv 0) (pa_cons (pv 1) pa_nil))))
 (pss_cons (ps_asg (pe_call G_lot_form (hr.mono (by decide)) (by rfl) T.g_lot_form T.F_lot_form.kp T.b_lot_form .nil (passE (E := E)) (pa_cons (pv 0) pa_nil)) (pg_tup rfl (pgs_cons (pg_name (i := 2) sc_alike_lots.nd rfl (.inl rfl)) (pgs_cons (pg_name (i := 3) sc_alike_lots.nd rfl (.inl rfl)) pgs_nil))))
 (pss_cons (ps_asg (pe_call G_lot_form (hr.mono (by decide)) (by rfl) T.g_lot_form T.F_lot_form.kp T.b_lot_form .nil (passE (E := E)) (pa_cons (pv 1) pa_nil)) (pg_tup rfl (pgs_cons (pg_name (i := 4) sc_alike_lots.nd rfl (.inl rfl)) (pgs_cons (pg_name (i := 5) sc_alike_lots.nd rfl (.inl rfl)) pgs_nil))))
 (pss_cons (ps_set (i := 6) sc_alike_lots.nd rfl (.inl rfl) (pe_call G_renaming_between (hr.mono (by decide)) (by rfl) T.g_renaming_between T.F_renaming_between.kp T.b_renaming_between .nil (passE (E := E)) (pa_cons (pv 2) (pa_cons (pv 4) pa_nil))))
 (pss_cons (ps_if (pt_cmp (pc_isN (pv 6)))
 (pss_one (ps_ret pe_non))
 pss_nil)
 (pss_cons (ps_set (i := 7) sc_alike_lots.nd rfl (.inl rfl) (pe_op op_rep (pe_lst (pa_cons pe_int pa_nil)) (pe_callB call_len_seq (by rfl) T.n_len (by decide +kernel) (pa_cons (pv 3) pa_nil))))
 (pss_cons (ps_for (passes_of rfl) rfl (RZ.pi_zipA (by rfl) T.n_zip (pa_cons (pv 3) (pa_cons (pv 5) pa_nil))) (pg_tup rfl (pgs_cons (pg_name (i := 8) sc_alike_lots.nd rfl (.inl rfl)) (pgs_cons (pg_name (i := 9) sc_alike_lots.nd rfl (.inl rfl)) pgs_nil)))
 (pss_one (ps_asg (pv 9) (pg_sub (pv 7) (pv 8) set_list))))
 (pss_one (ps_ret (pe_tup (pa_cons (pv 6) (pa_cons (pv 7) pa_nil)))))))))))), run_body (ρ := [some (seqD sb xs), some (seqD sc ys), none, none, none, none, none, none, none, none]) hs hR hK hX rfl ?_⟩
  rcases hk with ⟨L, M, rfl, rfl, hL, hM, hl, h4, hk⟩ | hk
  · refine ws_seq <| ws_drop <| we_callE <| wa_cons <| we_var rfl <| wa_cons <| we_var rfl <| wa_nil ⟨sb, sc, _, _, rfl, .inl ⟨gd_pl T L, gd_pl T M, by rw [List.length_map, List.length_map, hl], ?_⟩⟩
    refine ws_seq <| ws_asg <| we_call <| wa_cons <| we_var rfl <| wa_nil ⟨sb, L, rfl, hL, h4, fun d hd => ?_⟩
    obtain ⟨p, A, o, rfl, m0, a0, e0, s0, lk⟩ := best_lotk hd
    refine wg_tup rfl <| wgs_cons <| wg_name <| wgs_cons <| wg_name <| wgs_nil ?_
    refine ws_seq <| ws_asg <| we_call <| wa_cons <| we_var rfl <| wa_nil ⟨sc, M, rfl, hM, by omega, fun d hd2 => ?_⟩
    obtain ⟨q, C, o', rfl, m1, a1, e1, s1', lk'⟩ := best_lotk hd2
    obtain ⟨k1, k2⟩ := hk p q lk lk'
    refine wg_tup rfl <| wgs_cons <| wg_name <| wgs_cons <| wg_name <| wgs_nil ?_
    refine ws_seq <| ws_set <| we_call <| wa_cons <| we_var rfl <| wa_cons <| we_var rfl <| wa_nil ⟨p, q, A, C, rfl, a1, s0, s1', fun hn => ?_, fun he => ?_⟩
    · refine ws_seq <| ws_if <| wt_val <| we_isN <| we_var rfl ⟨_, rfl, fun _ => ?_, fun h => nomatch h⟩
      exact ws_ret (we_non (k1 hn))
    · refine ws_seq <| ws_if <| wt_val <| we_isN <| we_var rfl ⟨_, rfl, (fun h => nomatch h), fun _ => ?_⟩
      refine ws_next ?_
      have hlo : o.length = L.length := (ordL_mem m0).1
      have hlo' : o'.length = M.length := (ordL_mem m1).1
      have h8 : 100 < sizeLine := by decide
      refine wb_startRep (Nat.le_of_ble_eq_true rfl) <| we_lst <| wa_cons <| we_int <| wa_nil ⟨Nat.le_of_ble_eq_true rfl, _, rfl, we_lenL <| wa_cons <| we_var rfl <| wa_nil ⟨_, rfl, _, rfl, by omega, by rw [List.length_map]; omega, by rw [Int.toNat_natCast, List.length_map]; show 1 * _ ≤ _; omega, ?_⟩⟩
      rw [Int.toNat_natCast, List.length_map]
      have er : (List.replicate o.length [D.int 0]).flatten = (List.replicate o.length (0 : Int)).map D.int := by
        rw [List.map_replicate]
        generalize o.length = m
        induction m with
        | zero => rfl
        | succ m ih => rw [List.replicate_succ, List.flatten_cons, ih, List.replicate_succ]; rfl
      rw [er]
      refine wb_wso <| wo_for_zipL <| wa_cons <| we_var rfl <| wa_cons <| we_var rfl <| wa_nil ⟨_, _, rfl, by rw [List.length_map, List.length_map]; omega, fun i ρ' ds' B' => (∃ o8 o9, ρ' = [some (seqD sb (L.map (plT T))), some (seqD sc (M.map (plT T))), some (fo T p A), some (iD o), some (fo T q C), some (iD o'), some (rn6 T (cm6 (inv6 C) A)), none, o8, o9]) ∧ ds' = (idx o o' i).map D.int ∧ B = B', ⟨⟨_, _, rfl⟩, rfl, rfl⟩, fun i x y ρ' ds' B' hx hy hI p9 => ?_, fun ρ' ds' B' hI => ?_⟩
      · obtain ⟨⟨o8, o9, rfl⟩, rfl, rfl⟩ := hI
        rw [List.getElem?_map] at hx hy
        obtain ⟨j, hj, rfl⟩ := Option.map_eq_some_iff.mp hx
        obtain ⟨j', hj', rfl⟩ := Option.map_eq_some_iff.mp hy
        have hjr := (ordL_mem m0).2 j (List.mem_of_getElem? hj)
        refine wg_tup rfl <| wgs_cons <| wg_name <| wgs_cons <| wg_name <| wgs_nil ⟨rfl, ?_⟩
        have il : ∀ n, (idx o o' n).length = o.length := fun n => by
          unfold idx
          induction n with
          | zero => rw [List.range_zero, List.foldl_nil, List.length_replicate]
          | succ n ih => rw [List.range_succ, List.foldl_append, List.foldl_cons, List.foldl_nil, List.length_set]; exact ih
        refine wo_item <| we_var rfl <| we_var rfl ⟨j.toNat, by rw [Int.toNat_of_nonneg hjr.1], by rw [List.length_map, il]; omega, ⟨_, _, rfl⟩, ?_, rfl⟩
        have est : idx o o' (i + 1) = (idx o o' i).set j.toNat j' := by
          unfold idx
          rw [List.range_succ, List.foldl_append, List.foldl_cons, List.foldl_nil, List.getD_eq_getElem?_getD, List.getD_eq_getElem?_getD, hj, hj']
          rfl
        rw [est, List.map_set]
      · obtain ⟨⟨o8, o9, rfl⟩, rfl, rfl⟩ := hI
        refine wb_end (Nat.le_of_ble_eq_true rfl) ?_
        rw [List.length_map]
        refine ws_ret <| we_tup <| wa_cons <| we_var rfl <| wa_cons <| we_var rfl <| wa_nil ⟨Nat.le_of_ble_eq_true rfl, k2 he _ o o' m0 m1 (on_cm (on_inv a1) a0) ?_ (sz_quot a0 a1 s0 s1')⟩
        rw [← map_cm, ← e0, he, e1, map_cm, cm_inv a1, map_id6]
  · exact ws_seq <| ws_drop <| we_callE <| wa_cons <| we_var rfl <| wa_cons <| we_var rfl <| wa_nil ⟨sb, sc, _, _, rfl, .inr hk⟩
end
end AW

set_option linter.all false
set_option maxRecDepth 100000
set_option maxHeartbeats 8000000
namespace AW
open PySem PySem.Spec PyProof.Rows L2
variable [Tbs]
section
variable {P : Program} {w : World} {K : PySem.W.Frag} {mg : Str → Option Value} {base : Heap}
def pr_l_whole (T : Tx K mg) : Pr := fun ds B k e => ∃ i : Int, ds = [.int i] ∧ k (.bl true) B
theorem okD_l_whole (T : Tx K mg) : FnOk P w K mg base (L2.CX P w) 1 T.a_l_whole T.d_l_whole P_l_whole (spD K (pr_l_whole T)) := by
  refine T.F_l_whole.okX sc_l_whole (spD_len fun ds B k e h => by obtain ⟨i, rfl, hk⟩ := h; rfl) (fun cdv A outer s H vs Q E hr h => ?_)
  obtain ⟨G, ds, B, k, e, hs, hR, ⟨i, rfl, hk⟩, hK, hX⟩ := h
  refine ⟨_, (pss_one (ps_ret (pe_and (pe_callB call_isi (by rfl) T.n_isinstance (by decide +kernel) (pa_cons (pv 0) (pa_cons (pe_bltn (v := .ty "int") (by rfl) T.n_int (by decide +kernel) rfl) pa_nil))) (pe_one (pe_not (pe_callB call_isi (by rfl) T.n_isinstance (by decide +kernel) (pa_cons (pv 0) (pa_cons (pe_bltn (v := .ty "bool") (by rfl) T.n_bool (by decide +kernel) rfl) pa_nil)))))))), run_body (ρ := [some (.int i)]) hs hR hK hX rfl ?_⟩
  refine (ws_ret (we_and (we_isi_int T (wa_cons (we_var rfl (wa_cons (we_val (wa_nil ⟨_, rfl, rfl, ⟨_, rfl, fun hc1 => (we_not (we_isi_bool T (wa_cons (we_var rfl (wa_cons (we_val (wa_nil ⟨_, rfl, rfl, ⟨_, rfl, ?_⟩⟩))))))), fun hc2 => ?_⟩⟩))))))))
  · exact hk
  · cases hc2
def rowOf : D → D
  | .ins _ _ [.int x, .int y, .int a] => t3 x y a
  | _ => .non
def pr_l_row (T : Tx K mg) : Pr := fun ds B k e => ∃ d, ds = [d] ∧ ((∃ x y a, d = pl T x y a ∧ k (t3 x y a) B) ∨ (d = .non ∧ k .non B))
theorem okD_l_row (T : Tx K mg) : FnOk P w K mg base (L2.CX P w) 3 T.a_l_row T.d_l_row P_l_row (spD K (pr_l_row T)) := by
  refine T.F_l_row.okX sc_l_row (spD_len fun ds B k e h => by obtain ⟨d, rfl, hk⟩ := h; rfl) (fun cdv A outer s H vs Q E hr h => ?_)
  have G_l_whole : FnOk P w K mg base (L2.CX P w) 1 _ _ _ _ := okD_l_whole T
  obtain ⟨G, ds, B, k, e, hs, hR, ⟨d, rfl, hk⟩, hK, hX⟩ := h
  refine ⟨_, (pss_cons (ps_if (pt_not (pt_val (pe_callB call_isi (by rfl) T.n_isinstance (by decide +kernel) (pa_cons (pv 0) (pa_cons (pe_glob (v := .ref T.C_Place) (by rfl) T.g_C_Place rfl) pa_nil)))))
 (pss_one (ps_ret pe_non))
 pss_nil)
 (pss_cons (ps_set (i := 1) sc_l_row.nd rfl (.inl rfl) (pe_tup (pa_cons (pe_fld (pv 0) rfl) (pa_cons (pe_fld (pv 0) rfl) (pa_cons (pe_fld (pv 0) rfl) pa_nil)))))
 (pss_cons (ps_if (pt_not (pt_val (pe_callB (cr_all rfl) (by rfl) T.n_all (by decide +kernel) (pa_cons (pe_lc (own := [("_law_part", 2)]) (g := gName 2) (by rfl) sc_l_row.nd (pi_tup (pv 1)) (blkOk_by (own := [("_law_part", 2)]) (N := N_l_row) (sc := defScope s_l_row) (by decide +kernel)) (fun _ _ _ _ _ => pg_name (i := 2) sc_l_row.nd rfl (Or.inl rfl)) (fun _ _ _ _ _ => pts_nil) (fun _ _ _ _ _ => (pe_call G_l_whole (hr.mono (by decide)) (by rfl) T.g_l_whole T.F_l_whole.kp T.b_l_whole .nil passL (pa_cons (pv 2) pa_nil)))) pa_nil))))
 (pss_one (ps_ret pe_non))
 pss_nil)
 (pss_one (ps_ret (pv 1)))))), run_body (ρ := [some d, none, none]) hs hR hK hX rfl ?_⟩
  rcases hk with ⟨x, y, a, rfl, hk⟩ | ⟨rfl, hk⟩
  · refine ws_seq (ws_if (wt_not (wt_val (we_isi_Place T (wa_cons (we_var rfl (wa_cons (we_val (wa_nil ⟨_, rfl, .inr ⟨⟨_, _, _, rfl⟩, ⟨_, rfl, ⟨fun hc1 => ?_, fun hc2 => ?_⟩⟩⟩⟩)))))))))
    · cases hc1
    · refine ws_next ?_
      refine ws_seq (ws_set (we_tup (wa_cons (we_fx T (we_var rfl ⟨_, _, _, rfl, (wa_cons (we_fy T (we_var rfl ⟨_, _, _, rfl, (wa_cons (we_fa T (we_var rfl ⟨_, _, _, rfl, (wa_nil ⟨Nat.le_of_ble_eq_true rfl, ?_⟩)⟩)))⟩)))⟩)))))
      refine ws_seq (ws_if (wt_not (wt_val (we_all (wa_cons (we_lc_mapT (E1 := E0) (f := fun _ => .bl true) (we_var rfl ⟨_, rfl, (by show 3 < sizeLine; decide), fun z hz k' hk' => ?_, (wa_nil ⟨[true, true, true], rfl, true, rfl, ⟨fun h => (nomatch h), fun _ => ?_⟩⟩)⟩)))))))
      · simp only [List.mem_cons, List.not_mem_nil, or_false] at hz
        rcases hz with rfl | rfl | rfl <;> exact we_call (wa_cons (we_var rfl (wa_nil ⟨_, rfl, hk'⟩)))
      · refine ws_next ?_
        exact ws_ret (we_var rfl hk)
  · refine ws_seq (ws_if (wt_not (wt_val (we_isi_Place T (wa_cons (we_var rfl (wa_cons (we_val (wa_nil ⟨_, rfl, .inl ⟨rfl, false, rfl, ⟨fun _ => ?_, fun h => (nomatch h)⟩⟩⟩)))))))))
    exact ws_ret (we_non hk)
end
end AW

set_option linter.all false
set_option maxRecDepth 100000
set_option maxHeartbeats 8000000
namespace AW
open PySem PySem.Spec PyProof.Rows L2
variable [Tbs]
section
variable {P : Program} {w : World} {K : PySem.W.Frag} {mg : Str → Option Value} {base : Heap}
def pr_l_twist (T : Tx K mg) : Pr := fun ds B k e => ∃ x y a s t m : Int, ds = [t3 x y a, t3 s t m] ∧ Bd 20000 x ∧ Bd 20000 y ∧ Bd 20000 s ∧ Bd 20000 t ∧ k (.int (x * t - s * y)) B
theorem okD_l_twist (T : Tx K mg) : FnOk P w K mg base (L2.CX P w) 1 T.a_l_twist T.d_l_twist P_l_twist (spD K (pr_l_twist T)) := by
  refine T.F_l_twist.okX sc_l_twist (spD_len fun ds B k e h => by obtain ⟨x, y, a, s1, t, m, rfl, hx, hy, hs1, ht, hk⟩ := h; rfl) (fun cdv A outer s H vs Q E hr h => ?_)
  obtain ⟨G, ds, B, k, e, hs, hR, ⟨x, y, a, s1, t, m, rfl, hx, hy, hs1, ht, hk⟩, hK, hX⟩ := h
  refine ⟨_, (pss_one (ps_ret (pe_op op_sub (pe_op op_mulW (pe_ix ix_tup (pv 0) pe_int (fun _ _ => rfl)) (pe_ix ix_tup (pv 1) pe_int (fun _ _ => rfl))) (pe_op op_mulW (pe_ix ix_tup (pv 1) pe_int (fun _ _ => rfl)) (pe_ix ix_tup (pv 0) pe_int (fun _ _ => rfl)))))), run_body (ρ := [some (t3 x y a), some (t3 s1 t m)]) hs hR hK hX rfl ?_⟩
  refine (ws_ret (we_op (we_op (we_op (we_var rfl (we_int (ro_ixT rfl (we_op (we_var rfl (we_int (ro_ixT rfl (ro_i (cmc (by apply Bd.mono; (repeat (first | assumption | exact Bd.lit 64 (by decide +kernel) | exact Bd.lit 2000 (by decide +kernel) | apply Bd.neg | apply Bd.fdiv | apply Bd.mul | apply Bd.add2 | apply Bd.sub2)); decide) (by apply Bd.mono; (repeat (first | assumption | exact Bd.lit 64 (by decide +kernel) | exact Bd.lit 2000 (by decide +kernel) | apply Bd.neg | apply Bd.fdiv | apply Bd.mul | apply Bd.add2 | apply Bd.sub2)); decide)) (we_op (we_op (we_var rfl (we_int (ro_ixT rfl (we_op (we_var rfl (we_int (ro_ixT rfl (ro_i (cmc (by apply Bd.mono; (repeat (first | assumption | exact Bd.lit 64 (by decide +kernel) | exact Bd.lit 2000 (by decide +kernel) | apply Bd.neg | apply Bd.fdiv | apply Bd.mul | apply Bd.add2 | apply Bd.sub2)); decide) (by apply Bd.mono; (repeat (first | assumption | exact Bd.lit 64 (by decide +kernel) | exact Bd.lit 2000 (by decide +kernel) | apply Bd.neg | apply Bd.fdiv | apply Bd.mul | apply Bd.add2 | apply Bd.sub2)); decide)) (ro_i0 ?_)))))))))))))))))))))))
  exact hk
def pr_l_mid_drawn (T : Tx K mg) : Pr := fun ds B k e => ds = [penF] ∧ B ≤ 800000 ∧ ∀ (x y a : Int) B', Bd 60 x → Bd 60 y → Bd 120 a → B' ≤ B + 10 → k (t3 x y a) B'
theorem bd60_some {i : Int} (h : i ∈ [(1 : Int), 1, 10 ^ (15 : Int).toNat + 1]) : Bd 60 i := by
  have e15 : (10 : Int) ^ (15 : Int).toNat = 1000000000000000 := by decide
  rw [e15] at h
  simp only [List.mem_cons, List.not_mem_nil, or_false] at h
  unfold Bd
  omega
def pr_l_renamed (T : Tx K mg) : Pr := fun ds B k e => ∃ p q s r t u x y a : Int, ds = [.tup [t3 p q s, t3 r t u], t3 x y a] ∧ Bd 20000 p ∧ Bd 20000 q ∧ Bd 20000 s ∧ Bd 20000 r ∧ Bd 20000 t ∧ Bd 20000 u ∧ Bd 20000 x ∧ Bd 20000 y ∧ Bd 20000 a ∧ k (tD (imT (p, q, s) (r, t, u) (x, y, a))) B
theorem okD_l_renamed (T : Tx K mg) : FnOk P w K mg base (L2.CX P w) 2 T.a_l_renamed T.d_l_renamed P_l_renamed (spD K (pr_l_renamed T)) := by
  refine T.F_l_renamed.okX sc_l_renamed (spD_len fun ds B k e h => by obtain ⟨p, q, s1, r, t, u, x, y, a, rfl, hp, hq, hs1, hr1, ht, hu1, hx, hy, ha, hk⟩ := h; rfl) (fun cdv A outer s H vs Q E hr h => ?_)
  have G_l_join : FnOk P w K mg base (L2.CX P w) 1 _ _ _ _ := okD_l_join T
  have G_l_times : FnOk P w K mg base (L2.CX P w) 1 _ _ _ _ := okD_l_times T
  have G_l_twist : FnOk P w K mg base (L2.CX P w) 1 _ _ _ _ := okD_l_twist T
  obtain ⟨G, ds, B, k, e, hs, hR, ⟨p, q, s1, r, t, u, x, y, a, rfl, hp, hq, hs1, hr1, ht, hu1, hx, hy, ha, hk⟩, hK, hX⟩ := h
  refine ⟨_, (pss_cons (ps_set (i := 2) sc_l_renamed.nd rfl (.inl rfl) (pe_call G_l_join (hr.mono (by decide)) (by rfl) T.g_l_join T.F_l_join.kp T.b_l_join .nil passL (pa_cons (pe_call G_l_times (hr.mono (by decide)) (by rfl) T.g_l_times T.F_l_times.kp T.b_l_times .nil passL (pa_cons (pe_ix ix_tup (pv 0) pe_int (fun _ _ => rfl)) (pa_cons (pe_ix ix_tup (pv 1) pe_int (fun _ _ => rfl)) pa_nil))) (pa_cons (pe_call G_l_times (hr.mono (by decide)) (by rfl) T.g_l_times T.F_l_times.kp T.b_l_times .nil passL (pa_cons (pe_ix ix_tup (pv 0) pe_int (fun _ _ => rfl)) (pa_cons (pe_ix ix_tup (pv 1) pe_int (fun _ _ => rfl)) pa_nil))) pa_nil))))
 (pss_one (ps_ret (pe_tup (pa_cons (pe_ix ix_tup (pv 2) pe_int (fun _ _ => rfl)) (pa_cons (pe_ix ix_tup (pv 2) pe_int (fun _ _ => rfl)) (pa_cons (pe_op op_add (pe_ix ix_tup (pv 2) pe_int (fun _ _ => rfl)) (pe_op op_mulW (pe_call G_l_twist (hr.mono (by decide)) (by rfl) T.g_l_twist T.F_l_twist.kp T.b_l_twist .nil passL (pa_cons (pe_ix ix_tup (pv 0) pe_int (fun _ _ => rfl)) (pa_cons (pe_ix ix_tup (pv 0) pe_int (fun _ _ => rfl)) pa_nil))) (pe_ix ix_tup (pv 1) pe_int (fun _ _ => rfl)))) pa_nil))))))), run_body (ρ := [some (.tup [t3 p q s1, t3 r t u]), some (t3 x y a), none]) hs hR hK hX rfl ?_⟩
  rw [← im_eq] at hk
  refine ws_seq (ws_set (we_call (wa_cons (we_call (wa_cons (we_op (we_var rfl (we_int (ro_ixT rfl (wa_cons (we_op (we_var rfl (we_int (ro_ixT rfl (wa_nil ⟨_, _, _, _, rfl, (by apply Bd.mono; (repeat (first | assumption | exact Bd.lit 64 (by decide +kernel) | exact Bd.lit 2000 (by decide +kernel) | apply Bd.neg | apply Bd.fdiv | apply Bd.mul | apply Bd.add2 | apply Bd.sub2)); decide), (by apply Bd.mono; (repeat (first | assumption | exact Bd.lit 64 (by decide +kernel) | exact Bd.lit 2000 (by decide +kernel) | apply Bd.neg | apply Bd.fdiv | apply Bd.mul | apply Bd.add2 | apply Bd.sub2)); decide), (by apply Bd.mono; (repeat (first | assumption | exact Bd.lit 64 (by decide +kernel) | exact Bd.lit 2000 (by decide +kernel) | apply Bd.neg | apply Bd.fdiv | apply Bd.mul | apply Bd.add2 | apply Bd.sub2)); decide), (by apply Bd.mono; (repeat (first | assumption | exact Bd.lit 64 (by decide +kernel) | exact Bd.lit 2000 (by decide +kernel) | apply Bd.neg | apply Bd.fdiv | apply Bd.mul | apply Bd.add2 | apply Bd.sub2)); decide), (wa_cons (we_call (wa_cons (we_op (we_var rfl (we_int (ro_ixT rfl (wa_cons (we_op (we_var rfl (we_int (ro_ixT rfl (wa_nil ⟨_, _, _, _, rfl, (by apply Bd.mono; (repeat (first | assumption | exact Bd.lit 64 (by decide +kernel) | exact Bd.lit 2000 (by decide +kernel) | apply Bd.neg | apply Bd.fdiv | apply Bd.mul | apply Bd.add2 | apply Bd.sub2)); decide), (by apply Bd.mono; (repeat (first | assumption | exact Bd.lit 64 (by decide +kernel) | exact Bd.lit 2000 (by decide +kernel) | apply Bd.neg | apply Bd.fdiv | apply Bd.mul | apply Bd.add2 | apply Bd.sub2)); decide), (by apply Bd.mono; (repeat (first | assumption | exact Bd.lit 64 (by decide +kernel) | exact Bd.lit 2000 (by decide +kernel) | apply Bd.neg | apply Bd.fdiv | apply Bd.mul | apply Bd.add2 | apply Bd.sub2)); decide), (by apply Bd.mono; (repeat (first | assumption | exact Bd.lit 64 (by decide +kernel) | exact Bd.lit 2000 (by decide +kernel) | apply Bd.neg | apply Bd.fdiv | apply Bd.mul | apply Bd.add2 | apply Bd.sub2)); decide), (wa_nil ⟨_, _, _, _, _, _, rfl, (by apply Bd.mono; (repeat (first | assumption | exact Bd.lit 64 (by decide +kernel) | exact Bd.lit 2000 (by decide +kernel) | apply Bd.neg | apply Bd.fdiv | apply Bd.mul | apply Bd.add2 | apply Bd.sub2)); decide), (by apply Bd.mono; (repeat (first | assumption | exact Bd.lit 64 (by decide +kernel) | exact Bd.lit 2000 (by decide +kernel) | apply Bd.neg | apply Bd.fdiv | apply Bd.mul | apply Bd.add2 | apply Bd.sub2)); decide), ?_⟩)⟩)))))))))))))⟩)))))))))))))))
  refine (ws_ret (we_tup (wa_cons (we_op (we_var rfl (we_int (ro_ixT rfl (wa_cons (we_op (we_var rfl (we_int (ro_ixT rfl (wa_cons (we_op (we_op (we_var rfl (we_int (ro_ixT rfl (we_op (we_call (wa_cons (we_op (we_var rfl (we_int (ro_ixT rfl (wa_cons (we_op (we_var rfl (we_int (ro_ixT rfl (wa_nil ⟨_, _, _, _, _, _, rfl, (by apply Bd.mono; (repeat (first | assumption | exact Bd.lit 64 (by decide +kernel) | exact Bd.lit 2000 (by decide +kernel) | apply Bd.neg | apply Bd.fdiv | apply Bd.mul | apply Bd.add2 | apply Bd.sub2)); decide), (by apply Bd.mono; (repeat (first | assumption | exact Bd.lit 64 (by decide +kernel) | exact Bd.lit 2000 (by decide +kernel) | apply Bd.neg | apply Bd.fdiv | apply Bd.mul | apply Bd.add2 | apply Bd.sub2)); decide), (by apply Bd.mono; (repeat (first | assumption | exact Bd.lit 64 (by decide +kernel) | exact Bd.lit 2000 (by decide +kernel) | apply Bd.neg | apply Bd.fdiv | apply Bd.mul | apply Bd.add2 | apply Bd.sub2)); decide), (by apply Bd.mono; (repeat (first | assumption | exact Bd.lit 64 (by decide +kernel) | exact Bd.lit 2000 (by decide +kernel) | apply Bd.neg | apply Bd.fdiv | apply Bd.mul | apply Bd.add2 | apply Bd.sub2)); decide), (we_op (we_var rfl (we_int (ro_ixT rfl (ro_i (cmc (by apply Bd.mono; (repeat (first | assumption | exact Bd.lit 64 (by decide +kernel) | exact Bd.lit 2000 (by decide +kernel) | apply Bd.neg | apply Bd.fdiv | apply Bd.mul | apply Bd.add2 | apply Bd.sub2)); decide) (by apply Bd.mono; (repeat (first | assumption | exact Bd.lit 64 (by decide +kernel) | exact Bd.lit 2000 (by decide +kernel) | apply Bd.neg | apply Bd.fdiv | apply Bd.mul | apply Bd.add2 | apply Bd.sub2)); decide)) (ro_i0 (wa_nil ⟨Nat.le_of_ble_eq_true rfl, ?_⟩)))))))⟩)))))))))))))))))))))))))))))))
  exact hk
def Od (a b c d : Int) : Prop := a * d - c * b = 1 ∨ a * d - c * b = -1
theorem od_swap {a b c d : Int} (h : Od a b c d) : Od c d a b := by
  unfold Od at *
  rcases h with h | h
  · right; grind
  · left; grind
theorem od_add {a b c d : Int} (x : Int) (h : Od a b c d) : Od a b (c + x * a) (d + x * b) := by
  unfold Od at *
  rcases h with h | h
  · left; grind
  · right; grind
def pr_l_onto (T : Tx K mg) : Pr := fun ds B k e => ds = [penF] ∧ B ≤ 700000 ∧ ∀ (p q s r t u : Int) B', Bd 50 p → Bd 50 q → Bd 60 s → Bd 50 r → Bd 50 t → Bd 60 u → Od p q r t → B' ≤ B + 30 → k (.tup [t3 p q s, t3 r t u]) B'
theorem grow_bd {m : Nat} {c a k : Int} (hc : Bd m c) (ha : Bd m a) (hk : Bd 10 k) : Bd (m + 11) (c + k * a) :=
  Bd.mono (Bd.add (Bd.mono hc (Nat.le_add_left m 10)) (Bd.mul hk ha)) (by omega)
theorem okD_l_onto (T : Tx K mg) : FnOk P w K mg base (L2.CX P w) 4 T.a_l_onto T.d_l_onto P_l_onto (spD K (pr_l_onto T)) := by
  refine T.F_l_onto.okX sc_l_onto (spD_len fun ds B k e h => by obtain ⟨rfl, hB, hk⟩ := h; rfl) (fun cdv A outer s H vs Q E hr h => ?_)
  have G_l_draw : FnOk P w K mg base (L2.CX P w) 1 _ _ _ _ := okD_l_draw T
  have G_l_mid : FnOk P w K mg base (L2.CX P w) 3 _ _ _ _ := okD_l_mid T
  have G_l_pick : FnOk P w K mg base (L2.CX P w) 2 _ _ _ _ := okD_l_pick T
  obtain ⟨G, ds, B, k, e, hs, hR, ⟨rfl, hB, hk⟩, hK, hX⟩ := h
  refine ⟨_, (pss_cons (ps_par (i := 1) (j := 2) (by rfl) sc_l_onto.nd rfl rfl (by decide) rfl rfl (pa_cons (pe_tup (pa_cons pe_int (pa_cons pe_int pa_nil))) (pa_cons (pe_tup (pa_cons pe_int (pa_cons (pe_call G_l_pick (hr.mono (by decide)) (by rfl) T.g_l_pick T.F_l_pick.kp T.b_l_pick .nil passL (pa_cons (pv 0) (pa_cons (pe_lst (pa_cons pe_int (pa_cons (pe_un un_neg pe_int) pa_nil))) pa_nil))) pa_nil))) pa_nil)) (by rfl))
 (pss_cons (ps_for (passes_of rfl) rfl (pi_range1 (by rfl) T.n_range (pa_cons (pe_call G_l_draw (hr.mono (by decide)) (by rfl) T.g_l_draw T.F_l_draw.kp T.b_l_draw .nil passL (pa_cons (pv 0) (pa_cons pe_int pa_nil))) pa_nil)) (pg_name (i := 3) sc_l_onto.nd rfl (.inl rfl))
 (pss_cons (ps_set (i := 4) sc_l_onto.nd rfl (.inl rfl) (pe_call G_l_pick (hr.mono (by decide)) (by rfl) T.g_l_pick T.F_l_pick.kp T.b_l_pick .nil passL (pa_cons (pv 0) (pa_cons (pe_lst (pa_cons pe_int (pa_cons (pe_un un_neg pe_int) (pa_cons pe_int (pa_cons (pe_un un_neg pe_int) (pa_cons pe_int pa_nil)))))) pa_nil))))
 (pss_one (ps_asg (pe_call G_l_pick (hr.mono (by decide)) (by rfl) T.g_l_pick T.F_l_pick.kp T.b_l_pick .nil passL (pa_cons (pv 0) (pa_cons (pe_lst (pa_cons (pe_tup (pa_cons (pv 2) (pa_cons (pv 1) pa_nil))) (pa_cons (pe_tup (pa_cons (pv 1) (pa_cons (pe_tup (pa_cons (pe_op op_add (pe_ix ix_tup (pv 2) pe_int (fun _ _ => rfl)) (pe_op op_mulW (pv 4) (pe_ix ix_tup (pv 1) pe_int (fun _ _ => rfl)))) (pa_cons (pe_op op_add (pe_ix ix_tup (pv 2) pe_int (fun _ _ => rfl)) (pe_op op_mulW (pv 4) (pe_ix ix_tup (pv 1) pe_int (fun _ _ => rfl)))) pa_nil))) pa_nil))) pa_nil))) pa_nil))) (pg_tup rfl (pgs_cons (pg_name (i := 1) sc_l_onto.nd rfl (.inl rfl)) (pgs_cons (pg_name (i := 2) sc_l_onto.nd rfl (.inl rfl)) pgs_nil)))))))
 (pss_one (ps_ret (pe_tup (pa_cons (pe_tup (pa_cons (pe_ix ix_tup (pv 1) pe_int (fun _ _ => rfl)) (pa_cons (pe_ix ix_tup (pv 1) pe_int (fun _ _ => rfl)) (pa_cons (pe_call G_l_mid (hr.mono (by decide)) (by rfl) T.g_l_mid T.F_l_mid.kp T.b_l_mid .nil passL (pa_cons (pv 0) pa_nil)) pa_nil)))) (pa_cons (pe_tup (pa_cons (pe_ix ix_tup (pv 2) pe_int (fun _ _ => rfl)) (pa_cons (pe_ix ix_tup (pv 2) pe_int (fun _ _ => rfl)) (pa_cons (pe_call G_l_mid (hr.mono (by decide)) (by rfl) T.g_l_mid T.F_l_mid.kp T.b_l_mid .nil passL (pa_cons (pv 0) pa_nil)) pa_nil)))) pa_nil))))))), run_body (ρ := [some penF, none, none, none, none]) hs hR hK hX rfl ?_⟩
  refine ws_cut (fun ρ' B' => ∃ a b c d o3 o4, ρ' = [some penF, some (t2 a b), some (t2 c d), o3, o4] ∧ Bd 3 a ∧ Bd 3 b ∧ Bd 3 c ∧ Bd 3 d ∧ Od a b c d ∧ B' ≤ B + 1) ?_ ?_
  · refine (ws_par (wa_cons (we_tup (wa_cons (we_int (wa_cons (we_int (wa_nil ⟨Nat.le_of_ble_eq_true rfl, (wa_cons (we_tup (wa_cons (we_int (wa_cons (we_call (wa_cons (we_var rfl (wa_cons (we_lst (wa_cons (we_int (wa_cons (we_neg (we_int ⟨_, rfl, (wa_nil ⟨Nat.le_of_ble_eq_true rfl, (wa_nil ⟨_, rfl, by show 0 < 2; decide, by show 2 ≤ 1000; decide, by omega, fun f hf => ?_⟩)⟩)⟩)))))))))))))))⟩))))))))
    simp only [List.mem_cons, List.not_mem_nil, or_false] at hf
    have hf2 : ∃ i : Int, f = .int i ∧ Bd 3 i ∧ Od 1 0 0 i := by rcases hf with rfl | rfl <;> exact ⟨_, rfl, Bd.lit 3 (by decide), by unfold Od; decide⟩
    obtain ⟨f, rfl, bf, odf⟩ := hf2
    refine (wa_nil ⟨Nat.le_of_ble_eq_true rfl, (wa_nil ⟨_, _, rfl, ?_⟩)⟩)
    exact ⟨_, _, _, _, _, _, rfl, Bd.lit 3 (by decide), Bd.lit 3 (by decide), Bd.lit 3 (by decide), bf, odf, by omega⟩
  rintro _ B1 ⟨a, b, c, d, o3, o4, rfl, ha, hb, hc, hd, od, hB1⟩
  refine ws_cut (fun ρ' B' => ∃ a b c d o3 o4, ρ' = [some penF, some (t2 a b), some (t2 c d), o3, o4] ∧ Bd 50 a ∧ Bd 50 b ∧ Bd 50 c ∧ Bd 50 d ∧ Od a b c d ∧ B' ≤ B + 16) ?_ ?_
  · refine ws_for_range1 (wa_cons (we_call (wa_cons (we_var rfl (wa_cons (we_int (wa_nil ⟨_, rfl, by omega, by omega, by omega, fun j j0 j1 => wa_nil ⟨j, rfl, by omega, by omega, fun i ρ' B' => ∃ a b c d o3 o4, ρ' = [some penF, some (t2 a b), some (t2 c d), o3, o4] ∧ Bd (3 + 11 * i) a ∧ Bd (3 + 11 * i) b ∧ Bd (3 + 11 * i) c ∧ Bd (3 + 11 * i) d ∧ Od a b c d ∧ B' ≤ B + 2 + 2 * i, ⟨_, _, _, _, _, _, rfl, ha, hb, hc, hd, od, by omega⟩, fun i ρ' B' hi hI => ?_, fun ρ' B' hI => ?_⟩⟩)))))))
    · clear ha hb hc hd od a b c d
      obtain ⟨a, b, c, d, o3, o4, rfl, ha, hb, hc, hd, od, hBi⟩ := hI
      have hj : i < 5 := by omega
      refine wg_name ?_
      have W1 : ∀ {z : Int}, Bd (3 + 11 * i) z → Bd (3 + 11 * (i + 1)) z := fun h => Bd.mono h (by omega)
      refine ws_seq (ws_set (we_call (wa_cons (we_var rfl (wa_cons (we_lst (wa_cons (we_int (wa_cons (we_neg (we_int ⟨_, rfl, (wa_cons (we_int (wa_cons (we_neg (we_int ⟨_, rfl, (wa_cons (we_int (wa_nil ⟨Nat.le_of_ble_eq_true rfl, (wa_nil ⟨_, rfl, by show 0 < 5; decide, by show 5 ≤ 1000; decide, by omega, fun f hf => ?_⟩)⟩)))⟩)))))⟩)))))))))))
      simp only [List.mem_cons, List.not_mem_nil, or_false] at hf
      have hf2 : ∃ i : Int, f = .int i ∧ Bd 10 i := by rcases hf with rfl | rfl | rfl | rfl | rfl <;> exact ⟨_, rfl, Bd.lit 10 (by decide)⟩
      obtain ⟨x, rfl, bx⟩ := hf2
      refine ?_
      have n1 := grow_bd hc ha bx
      have n2 := grow_bd hd hb bx
      have cm1 : CMulW x a := cmc (Bd.mono bx (by decide)) (Bd.mono ha (by unfold BIG; omega))
      have cm2 : CMulW x b := cmc (Bd.mono bx (by decide)) (Bd.mono hb (by unfold BIG; omega))
      refine (ws_asg (we_call (wa_cons (we_var rfl (wa_cons (we_lst (wa_cons (we_tup (wa_cons (we_var rfl (wa_cons (we_var rfl (wa_nil ⟨Nat.le_of_ble_eq_true rfl, (wa_cons (we_tup (wa_cons (we_var rfl (wa_cons (we_tup (wa_cons (we_op (we_op (we_var rfl (we_int (ro_ixT rfl (we_op (we_var rfl (we_op (we_var rfl (we_int (ro_ixT rfl (ro_i (by assumption) (ro_i0 (wa_cons (we_op (we_op (we_var rfl (we_int (ro_ixT rfl (we_op (we_var rfl (we_op (we_var rfl (we_int (ro_ixT rfl (ro_i (by assumption) (ro_i0 (wa_nil ⟨Nat.le_of_ble_eq_true rfl, (wa_nil ⟨Nat.le_of_ble_eq_true rfl, (wa_nil ⟨Nat.le_of_ble_eq_true rfl, (wa_nil ⟨_, rfl, by show 0 < 2; decide, by show 2 ≤ 1000; decide, by omega, fun f hf => ?_⟩)⟩)⟩)⟩)))))))))))))))))))))))))))))))))))⟩)))))))))))))
      simp only [List.mem_cons, List.not_mem_nil, or_false] at hf
      have hf2 : ∃ a2 b2 c2 d2 : Int, f = .tup [t2 a2 b2, t2 c2 d2] ∧ Bd (3 + 11 * (i + 1)) a2 ∧ Bd (3 + 11 * (i + 1)) b2 ∧ Bd (3 + 11 * (i + 1)) c2 ∧ Bd (3 + 11 * (i + 1)) d2 ∧ Od a2 b2 c2 d2 := by rcases hf with rfl | rfl; exact ⟨_, _, _, _, rfl, W1 hc, W1 hd, W1 ha, W1 hb, od_swap od⟩; exact ⟨_, _, _, _, rfl, W1 ha, W1 hb, n1, n2, od_add x od⟩
      obtain ⟨a2, b2, c2, d2, rfl, ha2, hb2, hc2, hd2, od2⟩ := hf2
      refine (wg_tup rfl (wgs_cons (wg_name (wgs_cons (wg_name (wgs_nil ?_))))))
      exact ⟨_, _, _, _, _, _, rfl, ha2, hb2, hc2, hd2, od2, by omega⟩
    · obtain ⟨a, b, c, d, o3, o4, rfl, ha, hb, hc, hd, od, hBi⟩ := hI
      have hj : 3 + 11 * j.toNat ≤ 50 := by omega
      exact ⟨_, _, _, _, _, _, rfl, Bd.mono ha hj, Bd.mono hb hj, Bd.mono hc hj, Bd.mono hd hj, od, by omega⟩
  clear ha hb hc hd od a b c d
  rintro _ B2 ⟨a, b, c, d, o3', o4', rfl, ha, hb, hc, hd, od, hB2⟩
  refine (ws_ret (we_tup (wa_cons (we_tup (wa_cons (we_op (we_var rfl (we_int (ro_ixT rfl (wa_cons (we_op (we_var rfl (we_int (ro_ixT rfl (wa_cons (we_call (wa_cons (we_var rfl (wa_nil ⟨rfl, by omega, fun x HX => (wa_nil ⟨Nat.le_of_ble_eq_true rfl, (wa_cons (we_tup (wa_cons (we_op (we_var rfl (we_int (ro_ixT rfl (wa_cons (we_op (we_var rfl (we_int (ro_ixT rfl (wa_cons (we_call (wa_cons (we_var rfl (wa_nil ⟨rfl, by omega, fun x HX => (wa_nil ⟨Nat.le_of_ble_eq_true rfl, (wa_nil ⟨Nat.le_of_ble_eq_true rfl, ?_⟩)⟩)⟩)))))))))))))))))⟩)⟩)))))))))))))))))))
  exact hk _ _ _ _ _ _ _ (by apply Bd.mono; (repeat (first | assumption | exact Bd.lit 64 (by decide +kernel) | exact Bd.lit 2000 (by decide +kernel) | apply Bd.neg | apply Bd.fdiv | apply Bd.mul | apply Bd.add2 | apply Bd.sub2)); decide) (by apply Bd.mono; (repeat (first | assumption | exact Bd.lit 64 (by decide +kernel) | exact Bd.lit 2000 (by decide +kernel) | apply Bd.neg | apply Bd.fdiv | apply Bd.mul | apply Bd.add2 | apply Bd.sub2)); decide) (by apply Bd.mono; (repeat (first | assumption | exact Bd.lit 64 (by decide +kernel) | exact Bd.lit 2000 (by decide +kernel) | apply Bd.neg | apply Bd.fdiv | apply Bd.mul | apply Bd.add2 | apply Bd.sub2)); decide) (by apply Bd.mono; (repeat (first | assumption | exact Bd.lit 64 (by decide +kernel) | exact Bd.lit 2000 (by decide +kernel) | apply Bd.neg | apply Bd.fdiv | apply Bd.mul | apply Bd.add2 | apply Bd.sub2)); decide) (by apply Bd.mono; (repeat (first | assumption | exact Bd.lit 64 (by decide +kernel) | exact Bd.lit 2000 (by decide +kernel) | apply Bd.neg | apply Bd.fdiv | apply Bd.mul | apply Bd.add2 | apply Bd.sub2)); decide) (by apply Bd.mono; (repeat (first | assumption | exact Bd.lit 64 (by decide +kernel) | exact Bd.lit 2000 (by decide +kernel) | apply Bd.neg | apply Bd.fdiv | apply Bd.mul | apply Bd.add2 | apply Bd.sub2)); decide) od (by omega)
def pr_l_as_renaming (T : Tx K mg) : Pr := fun ds B k e => ∃ p q s r t u : Int, ds = [.tup [t3 p q s, t3 r t u]] ∧ k (rn T (p, q, s) (r, t, u)) B
def pr_l_six (T : Tx K mg) : Pr := fun ds B k e => ∃ p q s r t u : Int, ds = [rn T (p, q, s) (r, t, u)] ∧ k (.tup [t3 p q s, t3 r t u]) B
theorem okD_l_six (T : Tx K mg) : FnOk P w K mg base (L2.CX P w) 4 T.a_l_six T.d_l_six P_l_six (spD K (pr_l_six T)) := by
  refine T.F_l_six.okX sc_l_six (spD_len fun ds B k e h => by obtain ⟨p, q, s1, r, t, u, rfl, hk⟩ := h; rfl) (fun cdv A outer s H vs Q E hr h => ?_)
  have G_l_row : FnOk P w K mg base (L2.CX P w) 3 _ _ _ _ := okD_l_row T
  obtain ⟨G, ds, B, k, e, hs, hR, ⟨p, q, s1, r, t, u, rfl, hk⟩, hK, hX⟩ := h
  refine ⟨_, (pss_cons (ps_if (pt_not (pt_val (pe_callB call_isi (by rfl) T.n_isinstance (by decide +kernel) (pa_cons (pv 0) (pa_cons (pe_glob (v := .ref T.C_Renaming) (by rfl) T.g_C_Renaming rfl) pa_nil)))))
 (pss_one (ps_ret pe_non))
 pss_nil)
 (pss_one (ps_ret (pe_tup (pa_cons (pe_call G_l_row (hr.mono (by decide)) (by rfl) T.g_l_row T.F_l_row.kp T.b_l_row .nil passL (pa_cons (pe_fld (pv 0) rfl) pa_nil)) (pa_cons (pe_call G_l_row (hr.mono (by decide)) (by rfl) T.g_l_row T.F_l_row.kp T.b_l_row .nil passL (pa_cons (pe_fld (pv 0) rfl) pa_nil)) pa_nil)))))), run_body (ρ := [some (rn T (p, q, s1) (r, t, u))]) hs hR hK hX rfl ?_⟩
  refine ws_seq (ws_if (wt_not (wt_val (we_isi_Renaming T (wa_cons (we_var rfl (wa_cons (we_val (wa_nil ⟨_, _, rfl, ⟨_, rfl, ⟨fun hc1 => ?_, fun hc2 => ?_⟩⟩⟩)))))))))
  · cases hc1
  · refine ws_next ?_
    refine (ws_ret (we_tup (wa_cons (we_call (wa_cons (we_fe T (we_var rfl ⟨_, _, rfl, (wa_nil ⟨_, rfl, .inl ⟨_, _, _, rfl, (wa_cons (we_call (wa_cons (we_fn T (we_var rfl ⟨_, _, rfl, (wa_nil ⟨_, rfl, .inl ⟨_, _, _, rfl, (wa_nil ⟨Nat.le_of_ble_eq_true rfl, ?_⟩)⟩⟩)⟩)))))⟩⟩)⟩)))))))
    exact hk
abbrev t6 (A : T6) : D := .tup [tD A.1, tD A.2]
theorem pm_one {i : Int} : (pyL [.int 1, .int (-1)]).any (fun z => PyData.eqv z (py (.int i))) = decide (i = 1 ∨ i = -1) := by
  simp only [pyL, py, PyData.eqv, List.any_cons, List.any_nil, Bool.or_false]
  by_cases h1 : i = 1
  · subst h1; rfl
  · by_cases h2 : i = -1
    · subst h2; rfl
    · rw [decide_eq_false (by omega)]
      simp
      exact ⟨fun h => h1 h.symm, fun h => h2 h.symm⟩
end
end AW

set_option linter.all false
set_option maxRecDepth 100000
set_option maxHeartbeats 8000000
namespace AW
open PySem PySem.Spec PyProof.Rows L2
variable [Tbs]
section
variable {P : Program} {w : World} {K : PySem.W.Frag} {mg : Str → Option Value} {base : Heap}
/-! ### which rows are alike -/
def Sol (W : List T3) : Prop := ∃ s u : Int, ∀ w ∈ W, s * w.1 + u * w.2.1 = w.2.2
abbrev lt (Z : List (T3 × T3)) : List T3 := Z.map Prod.fst
abbrev rt (Z : List (T3 × T3)) : List T3 := Z.map Prod.snd
theorem alike_zip {Z : List (T3 × T3)} : AlikeL3 (lt Z) (rt Z) ↔ ∃ A, On A ∧ ∀ z ∈ Z, z.2 = im6 A z.1 := by
  unfold AlikeL3 lt rt
  constructor
  · rintro ⟨A, hA, e⟩
    rw [List.map_map] at e
    exact ⟨A, hA, List.map_inj_left.mp e⟩
  · rintro ⟨A, hA, h⟩
    refine ⟨A, hA, ?_⟩
    rw [List.map_map]
    exact List.map_congr_left h
def wz (c : T6) (z : T3 × T3) : T3 := (z.1.1, z.1.2.1, z.2.2.2 - (im6 c z.1).2.2)
def Fit (c : T6) (Z : List (T3 × T3)) : Prop := (∀ z ∈ Z, (im6 c z.1).1 = z.2.1 ∧ (im6 c z.1).2.1 = z.2.2.1) ∧ Sol (Z.map (wz c))
theorem im_lift (A : T6) (s u : Int) (p : T3) : im6 ((A.1.1, A.1.2.1, A.1.2.2 + s), (A.2.1, A.2.2.1, A.2.2.2 + u)) p = ((im6 A p).1, (im6 A p).2.1, (im6 A p).2.2 + (s * p.1 + u * p.2.1)) := by
  obtain ⟨⟨a, b, c⟩, ⟨d, f, g⟩⟩ := A
  obtain ⟨x, y, z⟩ := p
  simp only [im6, imT, Prod.mk.injEq]
  refine ⟨trivial, trivial, ?_⟩
  generalize (x * (x - 1)).fdiv 2 = c1
  generalize (y * (y - 1)).fdiv 2 = c2
  grind
theorem im_area (A : T6) (x y z w : Int) : im6 A (x, y, z + w) = ((im6 A (x, y, z)).1, (im6 A (x, y, z)).2.1, (im6 A (x, y, z)).2.2 + det6 A * w) := by
  obtain ⟨⟨a, b, c⟩, ⟨d, f, g⟩⟩ := A
  simp only [im6, imT, det6, Prod.mk.injEq]
  refine ⟨trivial, trivial, ?_⟩
  generalize (x * (x - 1)).fdiv 2 = c1
  generalize (y * (y - 1)).fdiv 2 = c2
  grind
theorem fit_alike {c : T6} (hc : On c) {Z : List (T3 × T3)} (h : Fit c Z) : AlikeL3 (lt Z) (rt Z) := by
  obtain ⟨he, s, u, hs⟩ := h
  rw [alike_zip]
  refine ⟨((c.1.1, c.1.2.1, c.1.2.2 + s), (c.2.1, c.2.2.1, c.2.2.2 + u)), hc, fun z hz => ?_⟩
  rw [im_lift]
  obtain ⟨e1, e2⟩ := he z hz
  have e3 := hs (wz c z) (List.mem_map_of_mem hz)
  simp only [wz] at e3
  refine Prod.ext e1.symm (Prod.ext e2.symm ?_)
  show z.2.2.2 = _ + _
  omega
theorem fit_lin {A : T6} {Z : List (T3 × T3)} (h : ∀ z ∈ Z, z.2 = im6 A z.1) : Fit ((A.1.1, A.1.2.1, 0), (A.2.1, A.2.2.1, 0)) Z := by
  have e : ∀ z ∈ Z, z.2 = ((im6 ((A.1.1, A.1.2.1, 0), (A.2.1, A.2.2.1, 0)) z.1).1, (im6 ((A.1.1, A.1.2.1, 0), (A.2.1, A.2.2.1, 0)) z.1).2.1, (im6 ((A.1.1, A.1.2.1, 0), (A.2.1, A.2.2.1, 0)) z.1).2.2 + (A.1.2.2 * z.1.1 + A.2.2.2 * z.1.2.1)) := fun z hz => by
    rw [h z hz, ← im_lift]
    dsimp only
    rw [Int.zero_add, Int.zero_add]
  refine ⟨fun z hz => ?_, A.1.2.2, A.2.2.2, fun w hw => ?_⟩
  · have := e z hz
    exact ⟨(congrArg Prod.fst this).symm, (congrArg (fun q => q.2.1) this).symm⟩
  · obtain ⟨z, hz, rfl⟩ := List.mem_map.mp hw
    have := congrArg (fun q => q.2.2) (e z hz)
    simp only [wz]
    dsimp only at this
    omega
theorem fit_zero {A : T6} {Z : List (T3 × T3)} (h : ∀ z ∈ Z, z.2 = im6 A z.1) (h0 : ∀ z ∈ Z, z.1.1 = 0 ∧ z.1.2.1 = 0) {c : T6} (hd : det6 c = det6 A) : Fit c Z := by
  have e : ∀ z ∈ Z, z.2 = im6 c z.1 := fun z hz => by
    obtain ⟨z1, z2⟩ := h0 z hz
    rw [h z hz, im_zero _ z1 z2, im_zero _ z1 z2, hd]
  refine ⟨fun z hz => by rw [e z hz]; exact ⟨rfl, rfl⟩, 0, 0, fun w hw => ?_⟩
  obtain ⟨z, hz, rfl⟩ := List.mem_map.mp hw
  simp only [wz]
  rw [← e z hz]
  omega
/-- all of the ends on one line -/
theorem fit_flat {A F G : T6} {Z : List (T3 × T3)} (hA : On A) (hF : det6 F = 1) (hG : det6 G = det6 A) (h : ∀ z ∈ Z, z.2 = im6 A z.1) (flat : ∀ z ∈ Z, (im6 F z.1).2.1 = 0) {z0 : T3 × T3} (hz0 : z0 ∈ Z) {g : Int} (hg : 0 < g) (e1 : (im6 F z0.1).1 = g) (e2 : (im6 G (g, 0, 0)).1 = z0.2.1) (e3 : (im6 G (g, 0, 0)).2.1 = z0.2.2.1) : Fit (cm6 G F) Z := by
  have oF : On F := .inl hF
  have oG : On G := by unfold On; rw [hG]; exact hA
  have key : ∀ z ∈ Z, im6 A z.1 = im6 G (im6 (cm6 (inv6 G) (cm6 A (inv6 F))) (im6 F z.1)) := fun z _ => by
    rw [show im6 (cm6 (inv6 G) (cm6 A (inv6 F))) (im6 F z.1) = im6 (cm6 (cm6 (inv6 G) (cm6 A (inv6 F))) F) z.1 from im_im _ _ _, show im6 G (im6 (cm6 (cm6 (inv6 G) (cm6 A (inv6 F))) F) z.1) = im6 (cm6 G (cm6 (cm6 (inv6 G) (cm6 A (inv6 F))) F)) z.1 from im_im _ _ _]
    rw [cm_assoc (inv6 G), ← cm_assoc G, inv_cm G oG, id_cm, cm_assoc, cm_inv oF, cm_id]
  have dD : det6 (cm6 (inv6 G) (cm6 A (inv6 F))) = 1 := by
    rw [det_cm, det_cm, det_inv oG, det_inv oF, hF, hG, Int.mul_one]
    rcases hA with d | d <;> rw [d] <;> decide
  generalize cm6 (inv6 G) (cm6 A (inv6 F)) = D at key dD
  have hub : im6 D (im6 F z0.1) = (g, 0, (im6 D (im6 F z0.1)).2.2) := by
    have k0 : ∃ w, im6 G (g, 0, w) = z0.2 := by
      refine ⟨det6 G * (z0.2.2.2 - (im6 G (g, 0, 0)).2.2), ?_⟩
      have := im_area G g 0 0 (det6 G * (z0.2.2.2 - (im6 G (g, 0, 0)).2.2))
      rw [Int.zero_add] at this
      rw [this, e2, e3, ← Int.mul_assoc]
      have sq : det6 G * det6 G = 1 := by rw [hG]; rcases hA with d | d <;> rw [d] <;> decide
      rw [sq]
      refine Prod.ext rfl (Prod.ext rfl ?_)
      show (im6 G (g, 0, 0)).2.2 + 1 * (z0.2.2.2 - (im6 G (g, 0, 0)).2.2) = z0.2.2.2
      omega
    obtain ⟨w, hw⟩ := k0
    have k1 := key z0 hz0
    rw [← h z0 hz0, ← hw] at k1
    rw [← im6_inj oG k1]
  have fl := flat z0 hz0
  obtain ⟨d1, d2⟩ : D.1.1 = 1 ∧ D.1.2.1 = 0 := by
    obtain ⟨⟨a, b, c⟩, ⟨d, f, e⟩⟩ := D
    generalize im6 F z0.1 = f0 at hub fl e1
    obtain ⟨x, y, z⟩ := f0
    dsimp only at fl e1
    subst fl e1
    simp only [im6, imT, Prod.mk.injEq] at hub
    obtain ⟨h1, h2, _⟩ := hub
    dsimp only
    constructor
    · apply Int.eq_of_mul_eq_mul_left (show x ≠ 0 by omega)
      omega
    · apply Int.eq_of_mul_eq_mul_left (show x ≠ 0 by omega)
      omega
  have im2 : ∀ z ∈ Z, z.2 = ((im6 (cm6 G F) z.1).1, (im6 (cm6 G F) z.1).2.1, (im6 (cm6 G F) z.1).2.2 + det6 G * ((im6 F z.1).1 * D.1.2.2)) := fun z hz => by
    rw [h z hz, key z hz, im_flat d1 d2 _ (flat z hz), dD, Int.one_mul]
    have e4 : im6 (cm6 G F) z.1 = im6 G ((im6 F z.1).1, 0, (im6 F z.1).2.2) := by
      rw [show im6 (cm6 G F) z.1 = im6 G (im6 F z.1) from (im_im G F z.1).symm]
      have : im6 F z.1 = ((im6 F z.1).1, 0, (im6 F z.1).2.2) := Prod.ext rfl (Prod.ext (flat z hz) rfl)
      rw [← this]
    rw [e4, Int.add_comm ((im6 F z.1).1 * D.1.2.2), im_area]
  refine ⟨fun z hz => ?_, det6 G * F.1.1 * D.1.2.2, det6 G * F.2.1 * D.1.2.2, fun w hw => ?_⟩
  · have := im2 z hz
    exact ⟨(congrArg Prod.fst this).symm, (congrArg (fun q => q.2.1) this).symm⟩
  · obtain ⟨z, hz, rfl⟩ := List.mem_map.mp hw
    have := congrArg (fun q => q.2.2) (im2 z hz)
    simp only [wz]
    dsimp only at this
    rw [this]
    have : (im6 F z.1).1 = z.1.1 * F.1.1 + z.1.2.1 * F.2.1 := rfl
    rw [this]
    grind
theorem gcd_im {A : T6} (hA : On A) (p : T3) : Nat.gcd (im6 A p).1.natAbs (im6 A p).2.1.natAbs = Nat.gcd p.1.natAbs p.2.1.natAbs := by
  have one : ∀ (A : T6) (p : T3), Nat.gcd p.1.natAbs p.2.1.natAbs ∣ Nat.gcd (im6 A p).1.natAbs (im6 A p).2.1.natAbs := fun A p => by
    have h1 : ((Nat.gcd p.1.natAbs p.2.1.natAbs : Nat) : Int) ∣ p.1 := Int.ofNat_dvd_left.mpr (Nat.gcd_dvd_left _ _)
    have h2 : ((Nat.gcd p.1.natAbs p.2.1.natAbs : Nat) : Int) ∣ p.2.1 := Int.ofNat_dvd_left.mpr (Nat.gcd_dvd_right _ _)
    apply Nat.dvd_gcd
    · exact Int.ofNat_dvd_left.mp (Int.dvd_add (Int.dvd_mul_of_dvd_left h1) (Int.dvd_mul_of_dvd_left h2))
    · exact Int.ofNat_dvd_left.mp (Int.dvd_add (Int.dvd_mul_of_dvd_left h1) (Int.dvd_mul_of_dvd_left h2))
  refine Nat.dvd_antisymm ?_ (one A p)
  have := one (inv6 A) (im6 A p)
  rw [show im6 (inv6 A) (im6 A p) = p from by
    rw [show im6 (inv6 A) (im6 A p) = im6 (cm6 (inv6 A) A) p from im_im _ _ _, cm_inv hA]
    exact im_same p.1 p.2.1 p.2.2] at this
  exact this
theorem alike_symm {L M : List T3} (h : AlikeL3 L M) : AlikeL3 M L := by
  obtain ⟨A, hA, rfl⟩ := h
  exact ⟨inv6 A, on_inv hA, by rw [map_cm, cm_inv hA, map_id6]⟩
/-- the linear part from two ends -/
theorem lin_two {A : T6} {o p i t : T3} (hi : i = im6 A o) (ht : t = im6 A p) : (i.1 * p.2.1 - t.1 * o.2.1 = A.1.1 * (o.1 * p.2.1 - p.1 * o.2.1)) ∧ (i.2.1 * p.2.1 - t.2.1 * o.2.1 = A.1.2.1 * (o.1 * p.2.1 - p.1 * o.2.1)) ∧ (t.1 * o.1 - i.1 * p.1 = A.2.1 * (o.1 * p.2.1 - p.1 * o.2.1)) ∧ (t.2.1 * o.1 - i.2.1 * p.1 = A.2.2.1 * (o.1 * p.2.1 - p.1 * o.2.1)) := by
  subst hi ht
  obtain ⟨⟨a, b, c⟩, ⟨d, f, g⟩⟩ := A
  obtain ⟨x, y, z⟩ := o
  obtain ⟨x', y', z'⟩ := p
  simp only [im6, imT]
  refine ⟨?_, ?_, ?_, ?_⟩ <;> grind
end
end AW

set_option linter.all false
set_option maxRecDepth 100000
set_option maxHeartbeats 8000000
namespace AW
open PySem PySem.Spec PyProof.Rows L2
variable [Tbs]
section
variable {P : Program} {w : World} {K : PySem.W.Frag} {mg : Str → Option Value} {base : Heap}
def Rw (k a : Nat) (p : T3) : Prop := Bd k p.1 ∧ Bd k p.2.1 ∧ Bd a p.2.2
theorem Rw.mono {k a k' a' : Nat} {p : T3} (h : Rw k a p) (h1 : k ≤ k') (h2 : a ≤ a') : Rw k' a' p := ⟨h.1.mono h1, h.2.1.mono h1, h.2.2.mono h2⟩
theorem lt_sz {n : Nat} (h : n ≤ 8) : n < sizeLine := by
  have : 10 < sizeLine := by decide
  omega
theorem bd_sm {i : Int} (h0 : -4 ≤ i) (h1 : i ≤ 4) : Bd 3 i := Bd.of_le (n := 4) (by omega) (by omega) (Bd.lit 3 (by decide +kernel))
def pr_l_list (T : Tx K mg) : Pr := fun ds B k e => ∃ m : Int, ds = [penF, .int m] ∧ 1 ≤ m ∧ m ≤ 8 ∧ B ≤ 800000 ∧ ∀ (L : List T3) B', 1 ≤ L.length → (L.length : Int) ≤ m → (∀ p ∈ L, Rw 60 60 p) → B' ≤ B + 80 → k (.lst (L.map tD)) B'
theorem okD_l_list (T : Tx K mg) : FnOk P w K mg base (L2.CX P w) 10 T.a_l_list T.d_l_list P_l_list (spD K (pr_l_list T)) := by
  refine T.F_l_list.okX sc_l_list (spD_len fun ds B k e h => by obtain ⟨m, rfl, hm0, hm, hB, hk⟩ := h; rfl) (fun cdv A outer s H vs Q E hr h => ?_)
  have G_l_draw : FnOk P w K mg base (L2.CX P w) 1 _ _ _ _ := okD_l_draw T
  have G_l_mid : FnOk P w K mg base (L2.CX P w) 3 _ _ _ _ := okD_l_mid T
  have G_l_pick : FnOk P w K mg base (L2.CX P w) 2 _ _ _ _ := okD_l_pick T
  have G_l_small : FnOk P w K mg base (L2.CX P w) 2 _ _ _ _ := okD_l_small T
  obtain ⟨G, ds, B, k, e, hs, hR, ⟨m, rfl, hm0, hm, hB, hk⟩, hK, hX⟩ := h
  refine ⟨_, (pss_cons (ps_par (i := 2) (j := 3) (by rfl) sc_l_list.nd rfl rfl (by decide) rfl rfl (pa_cons (pe_call G_l_draw (hr.mono (by decide)) (by rfl) T.g_l_draw T.F_l_draw.kp T.b_l_draw .nil passL (pa_cons (pv 0) (pa_cons pe_int pa_nil))) (pa_cons (pe_tup (pa_cons (pe_call G_l_small (hr.mono (by decide)) (by rfl) T.g_l_small T.F_l_small.kp T.b_l_small .nil passL (pa_cons (pv 0) pa_nil)) (pa_cons (pe_call G_l_small (hr.mono (by decide)) (by rfl) T.g_l_small T.F_l_small.kp T.b_l_small .nil passL (pa_cons (pv 0) pa_nil)) pa_nil))) pa_nil)) (by rfl))
 (pss_cons (ps_set (i := 4) sc_l_list.nd rfl (.inl rfl) (pe_lst pa_nil))
 (pss_cons (ps_for (passes_of rfl) rfl (pi_range1 (by rfl) T.n_range (pa_cons (pe_op op_add pe_int (pe_call G_l_draw (hr.mono (by decide)) (by rfl) T.g_l_draw T.F_l_draw.kp T.b_l_draw .nil passL (pa_cons (pv 0) (pa_cons (pv 1) pa_nil)))) pa_nil)) (pg_name (i := 5) sc_l_list.nd rfl (.inl rfl))
 (pss_cons (ps_set (i := 6) sc_l_list.nd rfl (.inl rfl) (pe_tup (pa_cons (pe_call G_l_pick (hr.mono (by decide)) (by rfl) T.g_l_pick T.F_l_pick.kp T.b_l_pick .nil passL (pa_cons (pv 0) (pa_cons (pe_lst (pa_cons (pe_call G_l_small (hr.mono (by decide)) (by rfl) T.g_l_small T.F_l_small.kp T.b_l_small .nil passL (pa_cons (pv 0) pa_nil)) (pa_cons (pe_call G_l_mid (hr.mono (by decide)) (by rfl) T.g_l_mid T.F_l_mid.kp T.b_l_mid .nil passL (pa_cons (pv 0) pa_nil)) pa_nil))) pa_nil))) (pa_cons (pe_call G_l_small (hr.mono (by decide)) (by rfl) T.g_l_small T.F_l_small.kp T.b_l_small .nil passL (pa_cons (pv 0) pa_nil)) (pa_cons (pe_call G_l_mid (hr.mono (by decide)) (by rfl) T.g_l_mid T.F_l_mid.kp T.b_l_mid .nil passL (pa_cons (pv 0) pa_nil)) pa_nil)))))
 (pss_cons (ps_if (pt_cmpR op_eq (pv 2) pe_int (nomark _))
 (pss_cons (ps_set (i := 7) sc_l_list.nd rfl (.inl rfl) (pe_op op_mul pe_int (pe_call G_l_small (hr.mono (by decide)) (by rfl) T.g_l_small T.F_l_small.kp T.b_l_small .nil passL (pa_cons (pv 0) pa_nil))))
 (pss_one (ps_set (i := 6) sc_l_list.nd rfl (.inl rfl) (pe_tup (pa_cons (pe_op op_mulW (pv 7) (pe_ix ix_tup (pv 3) pe_int (fun _ _ => rfl))) (pa_cons (pe_op op_mulW (pv 7) (pe_ix ix_tup (pv 3) pe_int (fun _ _ => rfl))) (pa_cons (pe_ix ix_tup (pv 6) pe_int (fun _ _ => rfl)) pa_nil)))))))
 pss_nil)
 (pss_cons (ps_if (pt_cmpR op_eq (pv 2) pe_int (nomark _))
 (pss_one (ps_set (i := 6) sc_l_list.nd rfl (.inl rfl) (pe_call G_l_pick (hr.mono (by decide)) (by rfl) T.g_l_pick T.F_l_pick.kp T.b_l_pick .nil passL (pa_cons (pv 0) (pa_cons (pe_lst (pa_cons (pe_tup (pa_cons pe_int (pa_cons pe_int (pa_cons (pe_ix ix_tup (pv 6) pe_int (fun _ _ => rfl)) pa_nil)))) (pa_cons (pv 6) (pa_cons (pe_tup (pa_cons pe_int (pa_cons pe_int (pa_cons pe_int pa_nil)))) pa_nil)))) pa_nil)))))
 pss_nil)
 (pss_cons (ps_if (pt_cmpR op_eq (pv 2) pe_int (nomark _))
 (pss_one (ps_set (i := 6) sc_l_list.nd rfl (.inl rfl) (pe_call G_l_pick (hr.mono (by decide)) (by rfl) T.g_l_pick T.F_l_pick.kp T.b_l_pick .nil passL (pa_cons (pv 0) (pa_cons (pe_lst (pa_cons (pe_tup (pa_cons pe_int (pa_cons pe_int (pa_cons (pe_ix ix_tup (pv 6) pe_int (fun _ _ => rfl)) pa_nil)))) (pa_cons (pe_tup (pa_cons (pe_ix ix_tup (pv 3) pe_int (fun _ _ => rfl)) (pa_cons (pe_ix ix_tup (pv 3) pe_int (fun _ _ => rfl)) (pa_cons (pe_ix ix_tup (pv 6) pe_int (fun _ _ => rfl)) pa_nil)))) pa_nil))) pa_nil)))))
 pss_nil)
 (pss_one (ps_expr (pe_bm PySem.F.plainAttrs_list PySem.F.slot_list_append PySem.F.type_list_append mt_append (pv 4) (pa_cons (pv 6) pa_nil)))))))))
 (pss_one (ps_ret (pv 4)))))), run_body (ρ := [some penF, some (.int m), none, none, none, none, none, none]) hs hR hK hX rfl ?_⟩
  refine ws_seq (ws_par (wa_cons (we_call (wa_cons (we_var rfl (wa_cons (we_int (wa_nil ⟨_, rfl, by omega, by omega, by omega, fun w d0 d1 => (wa_cons (we_tup (wa_cons (we_call (wa_cons (we_var rfl (wa_nil ⟨rfl, by omega, fun x h0 h1 => (wa_cons (we_call (wa_cons (we_var rfl (wa_nil ⟨rfl, by omega, fun x h0 h1 => (wa_nil ⟨Nat.le_of_ble_eq_true rfl, (wa_nil ⟨_, _, rfl, ?_⟩)⟩)⟩)))))⟩)))))))⟩))))))))
  rename_i y hy0 hy1
  have hx0 := h0
  have hx1 := h1
  have bx := bd_sm hx0 hx1
  have bY := bd_sm hy0 hy1
  clear hx0 hx1 hy0 hy1 h0 h1
  refine wb_start (Nat.le_of_ble_eq_true rfl) <| wa_nil ⟨Nat.zero_le _, ?_⟩
  refine wb_wso <| wo_for_range1 <| wa_cons <| we_op <| we_int <| we_call <| wa_cons <| we_var rfl <| wa_cons <| we_var rfl <| wa_nil ⟨_, rfl, by omega, by omega, by omega, fun d e0 e1 => ro_i0 <| wa_nil ⟨1 + d, rfl, by omega, by omega, fun j ρ' ds' B' => (∃ (o5 o6 o7 : Option D) (L : List T3), ρ' = [some penF, some (.int m), some (.int w), some (t2 y x), none, o5, o6, o7] ∧ ds' = L.map tD ∧ L.length = j ∧ ∀ p ∈ L, Rw 60 60 p) ∧ B' ≤ B + 4 + 8 * j, ⟨⟨_, _, _, [], rfl, rfl, rfl, fun p hp => nomatch hp⟩, by omega⟩, fun j ρ' ds' B' hj hI p => ?_, fun ρ' ds' B' hI => ?_⟩⟩
  · obtain ⟨⟨o5, o6, o7, L, rfl, rfl, hL, hb⟩, hB'⟩ := hI
    refine wg_name ⟨rfl, ?_⟩
    refine wo_cut (fun ρ' ds' B2 => (∃ q : T3, ρ' = [some penF, some (.int m), some (.int w), some (t2 y x), none, some (.int (0 + (j : Int))), some (tD q), o7] ∧ Rw 60 60 q) ∧ ds' = L.map tD ∧ B2 ≤ B' + 7) ?_ ?_
    · refine wo_ws fun p => ?_
      refine (ws_set (we_tup (wa_cons (we_call (wa_cons (we_var rfl (wa_cons (we_lst (wa_cons (we_call (wa_cons (we_var rfl (wa_nil ⟨rfl, by omega, fun z h0 h1 => (wa_cons (we_call (wa_cons (we_var rfl (wa_nil ⟨rfl, by omega, fun a ba => (wa_nil ⟨Nat.le_of_ble_eq_true rfl, (wa_nil ⟨_, rfl, by show 0 < 2; decide, by show 2 ≤ 1000; decide, by omega, fun f hf => ?_⟩)⟩)⟩)))))⟩)))))))))))))
      simp only [List.mem_cons, List.not_mem_nil, or_false] at hf
      have hf2 : ∃ l : Int, f = .int l ∧ Bd 60 l := by rcases hf with rfl | rfl <;> exact ⟨_, rfl, by first | exact (bd_sm h0 h1).mono (by decide) | assumption⟩
      obtain ⟨l, rfl, bl⟩ := hf2
      refine (wa_cons (we_call (wa_cons (we_var rfl (wa_nil ⟨rfl, by omega, fun z h0 h1 => (wa_cons (we_call (wa_cons (we_var rfl (wa_nil ⟨rfl, by omega, fun a ba => (wa_nil ⟨Nat.le_of_ble_eq_true rfl, ?_⟩)⟩)))))⟩)))))
      exact ⟨rfl, ⟨(l, z, a), rfl, bl, (bd_sm h0 h1).mono (by decide), ba⟩, rfl, by omega⟩
    rintro _ _ B2 ⟨⟨q, rfl, hq⟩, rfl, hB2⟩
    clear o5 o6
    refine wo_cut (fun ρ' ds' B3 => (∃ (q : T3) (o7 : Option D), ρ' = [some penF, some (.int m), some (.int w), some (t2 y x), none, some (.int (0 + (j : Int))), some (tD q), o7] ∧ Rw 60 60 q) ∧ ds' = L.map tD ∧ B3 ≤ B' + 7 + (if w = 1 then 1 else 0)) ?_ ?_
    · refine wo_ws fun p => ?_
      refine (ws_if (wt_test (we_op (we_var rfl (we_int (ro_eqI ⟨_, rfl, ⟨fun hc1 => ?_, fun hc2 => ?_⟩⟩))))))
      · refine ws_seq (ws_set (we_op (we_int (we_call (wa_cons (we_var rfl (wa_nil ⟨rfl, by omega, fun z h0 h1 => ?_⟩)))))))
        have bz := bd_sm h0 h1
        refine (ro_i (.inl ⟨by decide +kernel, by decide +kernel⟩) ?_)
        refine (ws_set (we_tup (wa_cons (we_op (we_var rfl (we_op (we_var rfl (we_int (ro_ixT rfl (ro_i (cmc (by apply Bd.mono; (repeat (first | assumption | exact Bd.lit 64 (by decide +kernel) | exact Bd.lit 2000 (by decide +kernel) | apply Bd.neg | apply Bd.fdiv | apply Bd.mul | apply Bd.add2 | apply Bd.sub2)); decide) (by apply Bd.mono; (repeat (first | assumption | exact Bd.lit 64 (by decide +kernel) | exact Bd.lit 2000 (by decide +kernel) | apply Bd.neg | apply Bd.fdiv | apply Bd.mul | apply Bd.add2 | apply Bd.sub2)); decide)) (wa_cons (we_op (we_var rfl (we_op (we_var rfl (we_int (ro_ixT rfl (ro_i (cmc (by apply Bd.mono; (repeat (first | assumption | exact Bd.lit 64 (by decide +kernel) | exact Bd.lit 2000 (by decide +kernel) | apply Bd.neg | apply Bd.fdiv | apply Bd.mul | apply Bd.add2 | apply Bd.sub2)); decide) (by apply Bd.mono; (repeat (first | assumption | exact Bd.lit 64 (by decide +kernel) | exact Bd.lit 2000 (by decide +kernel) | apply Bd.neg | apply Bd.fdiv | apply Bd.mul | apply Bd.add2 | apply Bd.sub2)); decide)) (wa_cons (we_op (we_var rfl (we_int (ro_ixT rfl (wa_nil ⟨Nat.le_of_ble_eq_true rfl, ?_⟩))))))))))))))))))))))))
        exact ⟨rfl, ⟨(2 * z * y, 2 * z * x, q.2.2), _, rfl, (Bd.mul (Bd.mul (Bd.lit (i := 2) 2 (by decide)) (bd_sm h0 h1)) bY).mono (by decide), (Bd.mul (Bd.mul (Bd.lit (i := 2) 2 (by decide)) (bd_sm h0 h1)) bx).mono (by decide), hq.2.2⟩, rfl, by rw [if_pos (of_decide_eq_true hc1)]; omega⟩
      · refine ws_next ?_
        exact ⟨rfl, ⟨q, _, rfl, hq⟩, rfl, by split <;> omega⟩
    clear hq q o7 hB2
    rintro _ _ B3 ⟨⟨q, o7, rfl, hq⟩, rfl, hB3⟩
    refine wo_cut (fun ρ' ds' B4 => (∃ (q : T3), ρ' = [some penF, some (.int m), some (.int w), some (t2 y x), none, some (.int (0 + (j : Int))), some (tD q), o7] ∧ Rw 60 60 q) ∧ ds' = L.map tD ∧ B4 ≤ B' + 7 + (if w = 1 ∨ w = 2 then 1 else 0)) ?_ ?_
    · refine wo_ws fun p => ?_
      refine (ws_if (wt_test (we_op (we_var rfl (we_int (ro_eqI ⟨_, rfl, ⟨fun hc1 => ?_, fun hc2 => ?_⟩⟩))))))
      · refine (ws_set (we_call (wa_cons (we_var rfl (wa_cons (we_lst (wa_cons (we_tup (wa_cons (we_int (wa_cons (we_int (wa_cons (we_op (we_var rfl (we_int (ro_ixT rfl (wa_nil ⟨Nat.le_of_ble_eq_true rfl, (wa_cons (we_var rfl (wa_cons (we_tup (wa_cons (we_int (wa_cons (we_int (wa_cons (we_int (wa_nil ⟨Nat.le_of_ble_eq_true rfl, (wa_nil ⟨Nat.le_of_ble_eq_true rfl, (wa_nil ⟨_, rfl, by show 0 < 3; decide, by show 3 ≤ 1000; decide, by omega, fun f hf => ?_⟩)⟩)⟩)))))))))))⟩))))))))))))))))))
        simp only [List.mem_cons, List.not_mem_nil, or_false] at hf
        have hf2 : ∃ g : T3, f = tD g ∧ Rw 60 60 g := by rcases hf with rfl | rfl | rfl; exact ⟨(0, 0, q.2.2), rfl, bd0, bd0, hq.2.2⟩; exact ⟨q, rfl, hq⟩; exact ⟨(0, 0, 0), rfl, bd0, bd0, bd0⟩
        obtain ⟨g, rfl, bg⟩ := hf2
        refine ?_
        exact ⟨rfl, ⟨g, rfl, bg⟩, rfl, by have := of_decide_eq_true hc1; subst this; simp at hB3 ⊢; omega⟩
      · refine ws_next ?_
        exact ⟨rfl, ⟨q, rfl, hq⟩, rfl, by have := of_decide_eq_false hc2; simp only [this, or_false]; exact hB3⟩
    clear hq q hB3
    rintro _ _ B4 ⟨⟨q, rfl, hq⟩, rfl, hB4⟩
    refine wo_cut (fun ρ' ds' B5 => (∃ (q : T3), ρ' = [some penF, some (.int m), some (.int w), some (t2 y x), none, some (.int (0 + (j : Int))), some (tD q), o7] ∧ Rw 60 60 q) ∧ ds' = L.map tD ∧ B5 ≤ B' + 8) ?_ ?_
    · refine wo_ws fun p => ?_
      refine (ws_if (wt_test (we_op (we_var rfl (we_int (ro_eqI ⟨_, rfl, ⟨fun hc1 => ?_, fun hc2 => ?_⟩⟩))))))
      · refine (ws_set (we_call (wa_cons (we_var rfl (wa_cons (we_lst (wa_cons (we_tup (wa_cons (we_int (wa_cons (we_int (wa_cons (we_op (we_var rfl (we_int (ro_ixT rfl (wa_nil ⟨Nat.le_of_ble_eq_true rfl, (wa_cons (we_tup (wa_cons (we_op (we_var rfl (we_int (ro_ixT rfl (wa_cons (we_op (we_var rfl (we_int (ro_ixT rfl (wa_cons (we_op (we_var rfl (we_int (ro_ixT rfl (wa_nil ⟨Nat.le_of_ble_eq_true rfl, (wa_nil ⟨Nat.le_of_ble_eq_true rfl, (wa_nil ⟨_, rfl, by show 0 < 2; decide, by show 2 ≤ 1000; decide, by omega, fun f hf => ?_⟩)⟩)⟩))))))))))))))))))⟩))))))))))))))))))
        simp only [List.mem_cons, List.not_mem_nil, or_false] at hf
        have hf2 : ∃ g : T3, f = tD g ∧ Rw 60 60 g := by rcases hf with rfl | rfl; exact ⟨(0, 0, q.2.2), rfl, bd0, bd0, hq.2.2⟩; exact ⟨(y, x, q.2.2), rfl, bY.mono (by decide), bx.mono (by decide), hq.2.2⟩
        obtain ⟨g, rfl, bg⟩ := hf2
        refine ?_
        exact ⟨rfl, ⟨g, rfl, bg⟩, rfl, by have := of_decide_eq_true hc1; subst this; simp at hB4; omega⟩
      · refine ws_next ?_
        exact ⟨rfl, ⟨q, rfl, hq⟩, rfl, by split at hB4 <;> omega⟩
    clear hq q hB4
    rintro _ _ B5 ⟨⟨q, rfl, hq⟩, rfl, hB5⟩
    refine wo_app <| we_var rfl ⟨by rw [List.length_map, hL]; exact lt_sz (by omega), ⟨_, _, _, L ++ [q], rfl, by rw [List.map_append]; rfl, by rw [List.length_append, hL]; rfl, fun p hp => ?_⟩, by push_cast; omega⟩
    rcases List.mem_append.mp hp with h | h
    · exact hb p h
    · rw [List.mem_singleton.mp h]; exact hq
  · obtain ⟨⟨o5, o6, o7, L, rfl, rfl, hL, hb⟩, hB'⟩ := hI
    exact wb_end (Nat.le_of_ble_eq_true rfl) <| ws_ret <| we_var rfl <| hk L _ (by omega) (by omega) hb (by omega)
def pr_l_near (T : Tx K mg) : Pr := fun ds B k e => ∃ L : List T3, ds = [penF, .lst (L.map tD)] ∧ 1 ≤ L.length ∧ L.length ≤ 8 ∧ (∀ p ∈ L, Rw 60 60 p) ∧ B ≤ 600000 ∧ ∀ (M : List T3) B', M.length = L.length → (∀ p ∈ M, Rw 114 230 p) → B' ≤ B + 40 → k (.lst (M.map tD)) B'
end
end AW

set_option linter.all false
set_option maxRecDepth 100000
set_option maxHeartbeats 8000000
namespace AW
open PySem PySem.Spec PyProof.Rows L2 LamX
variable [Tbs]
section
variable {P : Program} {w : World} {K : PySem.W.Frag} {mg : Str → Option Value} {base : Heap}

/-- the error that came, told: a new tuple -/
def Told (H : Hp) (Q : VK) (x : Str) (v : V) : Prop := ∀ t, H t = none → Q (.ref t) (upd H t (.tup [.str x, v]))
def Told2 (H : Hp) (Q : VK) (x : Str) (v u : V) : Prop := ∀ t, H t = none → Q (.ref t) (upd H t (.tup [.str x, v, u]))
def TTl_how (T : Tx K mg) : (XK → Hp → VK → Prop) → Hp → VK → Prop := fun tl H Q =>
  tl (fun cls d H' => (cls = .ref T.C_Uneven ∧ ∃ dd v u, d = some dd ∧ H' dd = some (.xd [("second", u), ("first", v)]) ∧ Told2 H' Q "uneven" v u) ∨ (cls = .ref T.C_BadPlace ∧ ∃ dd v, d = some dd ∧ H' dd = some (.xd [("value", v)]) ∧ Told H' Q "place" v)) H (fun _ H' => ∃ v, (some (some V.non) : Option (Option V)) = some (some v) ∧ Q v H')
def eHow (T : Tx K mg) (k : KD) : EW := fun C f B => (C = T.C_Uneven ∧ ∃ d c, f = some ((["second", "first"] : List Str), [c, d]) ∧ k (.tup [.str "uneven", d, c]) B) ∨ (C = T.C_BadPlace ∧ ∃ d, f = some ((["value"] : List Str), [d]) ∧ k (.tup [.str "place", d]) B)
theorem tt_how (T : Tx K mg) : TTok K (TTl_how T) (eHow T) (fun k _ B => k .non B) := ⟨fun tl k G H B Q s kq h => by
  refine h _ _ (fun C f B' G' H' hw ex => ?_) (fun d v B' G' H' hk ex _ => ⟨_, rfl, kq .non _ _ _ _ hk ex rfl⟩)
  rcases hw with ⟨rfl, d, c, rfl, hk⟩ | ⟨rfl, d, rfl, hk⟩
  · intro dx vs hd hl hr
    obtain ⟨u, _, rfl, ru, v, _, rfl, rv, rfl⟩ := hr
    refine .inl ⟨rfl, dx, v, u, rfl, hd, fun t nt => kq _ _ _ _ _ hk (ex.trans (Ext.new (B := B') ex.sub nt)) ?_⟩
    exact ⟨t, _, rfl, SqT.of upd_same, _, _, rfl, rfl, _, _, rfl, rv.mono (Ext.new (B := B') ex.sub nt).le, _, _, rfl, ru.mono (Ext.new (B := B') ex.sub nt).le, rfl⟩
  · intro dx vs hd hl hr
    obtain ⟨v, _, rfl, rv, rfl⟩ := hr
    refine .inr ⟨rfl, dx, v, rfl, hd, fun t nt => kq _ _ _ _ _ hk (ex.trans (Ext.new (B := B') ex.sub nt)) ?_⟩
    exact ⟨t, _, rfl, SqT.of upd_same, _, _, rfl, rfl, _, _, rfl, rv.mono (Ext.new (B := B') ex.sub nt).le, rfl⟩⟩
theorem takes_len {X : Cx} {W : WX} (tk : Takes X W) : Takes X (fun cls d σ H => σ.length = X.N.length → W cls d σ H) := fun u s' ⟨a, B, sI, pins, σ, H, cls, d, e, I, nb, up, sky, na, os, ag, w⟩ =>
  tk u s' ⟨a, B, sI, pins, σ, H, cls, d, e, I, nb, up, sky, na, os, ag, w I.len⟩
theorem l_how_gives (T : Tx K mg) {X : Cx} (hK : X.K = K) (hmg : X.mg = mg) {cdg : Value} {q : Str} {mk : Addr → Addr → HO} :
    GivesK X N_l_how "_law_how" (defScope s_l_how) T.a_l_how cdg (defBody s_l_how) "_law_deed" q mk (TTl_how T) := by
  subst hK
  subst hmg
  intro f c' s H Q tl act hf hc h
  refine ⟨_, pss_cons (ps_set (i := 1) sc_l_how.nd rfl (.inl rfl) pe_non) (pss_cons (ps_try_manyA (X := (cxOf C8.CX0 X.prog X.w X.K X.mg X.base N_l_how "_law_how" (defScope s_l_how) T.a_l_how cdg X.A X.stack s H C8.E0).nox)
      (tb := fun W D σ H => ∃ Ech : XK, (∀ cls d σ' H', Ech cls d H' → σ'.length = 3 → W cls d σ' H') ∧ σ[0]? = some (some (.ref f)) ∧ H f = some (mk f c') ∧ H c' = some (CodeO c' q) ∧ tl Ech H (fun _ H' => D.nx σ H'))
      (l := [(.ref T.C_Uneven, 2, fun a cls d => tAsg (tTup (tCons (tC (.str "uneven")) (tCons (tXf a cls d T.C_Uneven "first" (tVar 2)) (tCons (tXf a cls d T.C_Uneven "second" (tVar 2)) tNil)))) (gName 1)),
        (.ref T.C_BadPlace, 2, fun a cls d => tAsg (tTup (tCons (tC (.str "place")) (tCons (tXf a cls d T.C_BadPlace "value" (tVar 2)) tNil))) (gName 1))])
      rfl rfl sc_l_how.nd L2.takes0 (fun W pn xe tk _ => ?_)
      (.cons rfl rfl ⟨rfl, by decide, .inl T.g_C_Uneven⟩ (fun a oe cls d pn hz hf => pss_one (ps_set (i := 1) sc_l_how.nd rfl (.inl rfl) (pe_tup (pa_cons pe_str (pa_cons (pe_xf T.Y_Uneven T.na_Uneven_first hz hf (pv 2)) (pa_cons (pe_xf T.Y_Uneven T.na_Uneven_second hz hf (pv 2)) pa_nil))))))
        (.cons rfl rfl ⟨rfl, by decide, .inl T.g_C_BadPlace⟩ (fun a oe cls d pn hz hf => pss_one (ps_set (i := 1) sc_l_how.nd rfl (.inl rfl) (pe_tup (pa_cons pe_str (pa_cons (pe_xf T.Y_BadPlace T.na_BadPlace_value hz hf (pv 2)) pa_nil))))) .nil)))
    (pss_one (ps_ret (pv 1)))), ?_⟩
  · refine ⟨fun pins s' σ H' D I h' => ?_⟩
    obtain ⟨Ech, hW, h1, h2, h3, h4⟩ := h'
    have hp := fun p1 p2 => act _ pn xe Ech p1 p2 (takes_len tk) hW
    exact (pss_one (ps_expr (hp _ _))).run pins s' σ H' D I ⟨h1, h2, h3, h4⟩
  · have get1 : ∀ (σ' : L2.St) (a : Addr), σ'.length = 3 → (σ'.set 2 (some (V.ref a)))[2]? = some (some (V.ref a)) := fun σ' a hl => by
      rw [List.getElem?_set_self (by omega)]
    have get2 : ∀ (σ' : L2.St) (a t : Addr), σ'.length = 3 → (((σ'.set 2 (some (V.ref a))).set 1 (some (V.ref t))).set 2 none)[1]? = some (some (V.ref t)) := fun σ' a t hl => by
      rw [List.getElem?_set_ne (by decide), List.getElem?_set_self (by rw [List.length_set]; omega)]
    refine ⟨fun cls d H' => (cls = .ref T.C_Uneven ∧ ∃ dd v u, d = some dd ∧ H' dd = some (.xd [("second", u), ("first", v)]) ∧ Told2 H' Q "uneven" v u) ∨ (cls = .ref T.C_BadPlace ∧ ∃ dd v, d = some dd ∧ H' dd = some (.xd [("value", v)]) ∧ Told H' Q "place" v), ?_, rfl, hf, hc, ?_⟩
    · rintro cls d σ' H' (⟨rfl, dd, v, u, rfl, hd, k⟩ | ⟨rfl, dd, v, rfl, hd, k⟩) hl
      · refine ⟨true, T.em_Uneven_Uneven, fun _ a na => ?_, fun z => nomatch z⟩
        have kf : (("first" : Str) == "second") = false := by decide +kernel
        refine ⟨_, get1 σ' a hl, rfl, rfl, dd, _, v, rfl, hd, by simp [List.lookup, kf], _, get1 σ' a hl, rfl, rfl, dd, _, u, rfl, hd, by simp [List.lookup], (by show 3 ≤ sizeLine; decide), fun t nt => ⟨_, get2 σ' a t hl, ?_⟩⟩
        exact k t nt
      · refine ⟨false, T.em_BadPlace_Uneven, (fun z => nomatch z), fun _ => ⟨true, T.em_BadPlace_BadPlace, fun _ a na => ?_, fun z => nomatch z⟩⟩
        refine ⟨_, get1 σ' a hl, rfl, rfl, dd, _, v, rfl, hd, by simp [List.lookup], (by show 2 ≤ sizeLine; decide), fun t nt => ⟨_, get2 σ' a t hl, ?_⟩⟩
        exact k t nt
    · exact h
end
end AW

set_option linter.all false
set_option maxRecDepth 100000
set_option maxHeartbeats 8000000
namespace AW
open PySem PySem.Spec PyProof.Rows L2
variable [Tbs]
section
variable {P : Program} {w : World} {K : PySem.W.Frag} {mg : Str → Option Value} {base : Heap}
abbrev lamQ_l_refused : Str := (envOfC "_law_refused" (defScope s_l_refused) 0 0 .none).qual ++ "<lambda>"
def tabs1 (T : Tx K mg) : List (Addr × Str) := [(T.pt_l_refused, lamQ_l_refused)]
def WrD (d : D) : Prop := d = .non ∨ d = .int 3 ∨ d = .tup [.int 1, .int 2, .int 3] ∨ d = .str "w" ∨ d = .lst []
def pr_l_refused (T : Tx K mg) : Pr := fun ds B k e => ∃ L : List T3, ds = [penF, .lst (L.map (plT T))] ∧ 1 ≤ L.length ∧ L.length ≤ 3 ∧ B ≤ 800000 ∧ ∀ B', B' ≤ B + 2 → k (.bl true) B'
theorem cut1 (xs : List D) (h : 1 ≤ xs.length) : (cutD xs none (some 1)).length = 1 := by
  have e : HT.sIx xs.length xs.length (some 1) = 1 := by
    rw [show (1 : Int) = ((1 : Nat) : Int) from rfl, HT.sIx_nat]
    omega
  unfold cutD
  rw [e, HT.sIx_none, List.drop_zero, List.length_take]
  omega
theorem sh_un (i j : Int) : SeqAt.shaped (py (.tup [.str "uneven", .int i, .int j])) = true := by
  refine shaped_of ?_ (decide_eq_true ?_)
  · show (PyData.tuple [.str "uneven", .int i, .int j]).canLay0 = true
    simp only [PyData.canLay0, PyData.canLayAll0, Bool.and_true]
    decide +kernel
  · show (PyData.tuple [.str "uneven", .int i, .int j]).depth ≤ 64
    simp [PyData.depth, PyData.depthAll]
theorem okD_l_refused (T : Tx K mg) (TB : LamX.TabB base mg T.cc_l_refused T.pt_l_refused) (hT : Tbs.T = tabs1 T) (hN : ((tabs1 T).map Prod.fst).Nodup) : FnOk P w K mg base (L2.CX P w) 16 T.a_l_refused T.d_l_refused P_l_refused (spD K (pr_l_refused T)) := by
  refine T.FC_l_refused.okX sc_l_refused (spD_len fun ds B k e h => by obtain ⟨L, rfl, l1, l3, hB, hk⟩ := h; rfl) (fun A outer s H vs Q E hr h => ?_)
  have hmT : (T.pt_l_refused, lamQ_l_refused) ∈ (Tbs.T : List (Addr × Str)) := by rw [hT]; unfold tabs1; simp
  have huT : ∀ p ∈ (Tbs.T : List (Addr × Str)), p.1 = T.pt_l_refused → p.2 = lamQ_l_refused := tab_uniq (by rw [hT]; exact hN) hmT
  obtain ⟨oc_l_how, od_l_how, kV_l_how, dc_l_how, pm_l_how, an_l_how, cdv_l_how, ct_l_how, osl_l_how, e_l_how, lk_l_how, cd_l_how⟩ := T.F_l_how.ex
  have bd_l_how : Binds K T.d_l_how P_l_how [] := T.b_l_how
  rw [e_l_how] at lk_l_how bd_l_how
  have G_alike : FnOk P w K mg base (L2.CX P w) 12 _ _ _ _ := okD_alike T
  have G_alike_lots : FnOk P w K mg base (L2.CX P w) 13 _ _ _ _ := okD_alike_lots T
  have G_l_draw : FnOk P w K mg base (L2.CX P w) 1 _ _ _ _ := okD_l_draw T
  have G_l_pick : FnOk P w K mg base (L2.CX P w) 2 _ _ _ _ := okD_l_pick T
  have G_list_key : FnOk P w K mg base (L2.CX P w) 10 _ _ _ _ := okD_list_key T
  have G_lot_key : FnOk P w K mg base (L2.CX P w) 11 _ _ _ _ := okD_lot_key T
  obtain ⟨G, ds, B, k, e, hs, hR, ⟨L, rfl, l1, l3, hB, hk⟩, hK, hX⟩ := h
  refine ⟨_, (pss_cons (ps_par (i := 2) (j := 3) (by rfl) sc_l_refused.nd rfl rfl (by decide) rfl rfl (pa_cons (pe_call G_l_draw (hr.mono (by decide)) (by rfl) T.g_l_draw T.F_l_draw.kp T.b_l_draw .nil passL (pa_cons (pv 0) (pa_cons (pe_callB call_len_seq (by rfl) T.n_len (by decide +kernel) (pa_cons (pv 1) pa_nil)) pa_nil))) (pa_cons (pe_call G_l_pick (hr.mono (by decide)) (by rfl) T.g_l_pick T.F_l_pick.kp T.b_l_pick .nil passL (pa_cons (pv 0) (pa_cons (pe_lst (pa_cons pe_non (pa_cons pe_int (pa_cons (pe_tup (pa_cons pe_int (pa_cons pe_int (pa_cons pe_int pa_nil)))) (pa_cons pe_str (pa_cons (pe_lst pa_nil) pa_nil)))))) pa_nil))) pa_nil)) (by rfl))
 (pss_cons (ps_set (i := 4) sc_l_refused.nd rfl (.inr rfl) (pe_callTy call_list_of (by rfl) T.n_list (by decide +kernel) (pa_cons (pv 1) pa_nil)))
 (pss_cons (ps_asg (pv 3) (pg_sub (pv 4) (pv 2) set_list))
 (pss_cons (ps_for (passes_of rfl) rfl (pi_list (pe_lst (pa_cons (pe_glob (v := .ref T.a_alike) (by rfl) T.g_alike rfl) (pa_cons (pe_glob (v := .ref T.a_alike_lots) (by rfl) T.g_alike_lots rfl) pa_nil)))) (pg_name (i := 5) sc_l_refused.nd rfl (.inr rfl))
 (pss_cons (ps_if (pt_cmpR (op_neD hr.units) (pe_lamarg (T := Tbs.T) (TT := TTl_how T) (t := fun E => (tOr2E (tCallL 5 T.a_alike (spD K (pr_alike T)) [] E (tCons (tVar 1) (tCons (tOp rCat (tVar 1) (tSl (rSlL K) (tVar 1) tNoPart (tPart (tC (.int 1))))) tNil))) (tCallL 5 T.a_alike_lots (spD K (pr_alike_lots T)) [] E (tCons (tVar 1) (tCons (tOp rCat (tVar 1) (tSl (rSlL K) (tVar 1) tNoPart (tPart (tC (.int 1))))) tNil))))) (k := 13) (by rfl) T.g_l_how T.F_l_how.kp lk_l_how cd_l_how bd_l_how sc_l_how rfl (.inl rfl) (l_how_gives T rfl rfl) TB rfl hmT (hr.mono (by decide)) (LamX.lamS_by (sc := defScope s_l_refused) (by decide +kernel)) rfl (fun _ _ _ _ _ => rfl) (fun A outer s H E f d hr => (pe_or2 (pe_callL (i := 5) G_alike (hr.mono (by decide)) (by rfl) (by first | exact Or.inl rfl | exact Or.inr (Or.inl rfl) | exact Or.inr (Or.inr rfl)) T.F_alike.kp T.b_alike .nil (passE (E := E)) (pa_cons (pv 1) (pa_cons (pe_op op_cat (pv 1) (pe_slice sl_list (pv 1) po_none (po_some pe_int))) pa_nil))) (pe_callL (i := 5) G_alike_lots (hr.mono (by decide)) (by rfl) (by first | exact Or.inl rfl | exact Or.inr (Or.inl rfl) | exact Or.inr (Or.inr rfl)) T.F_alike_lots.kp T.b_alike_lots .nil (passE (E := E)) (pa_cons (pv 1) (pa_cons (pe_op op_cat (pv 1) (pe_slice sl_list (pv 1) po_none (po_some pe_int))) pa_nil)))))) (pe_tup (pa_cons pe_str (pa_cons (pe_callB call_len_seq (by rfl) T.n_len (by decide +kernel) (pa_cons (pv 1) pa_nil)) (pa_cons (pe_op op_add (pe_callB call_len_seq (by rfl) T.n_len (by decide +kernel) (pa_cons (pv 1) pa_nil)) pe_int) pa_nil)))) (nomark _))
 (pss_one (ps_ret pe_bl))
 pss_nil)
 (pss_cons (ps_if (pt_cmpR (op_neD hr.units) (pe_lamarg (T := Tbs.T) (TT := TTl_how T) (t := fun E => (tOr2E (tCallL 5 T.a_alike (spD K (pr_alike T)) [] E (tCons (tVar 4) (tCons (tLst (tCons (tC .non) tNil)) tNil))) (tCallL 5 T.a_alike_lots (spD K (pr_alike_lots T)) [] E (tCons (tVar 4) (tCons (tLst (tCons (tC .non) tNil)) tNil))))) (k := 13) (by rfl) T.g_l_how T.F_l_how.kp lk_l_how cd_l_how bd_l_how sc_l_how rfl (.inl rfl) (l_how_gives T rfl rfl) TB rfl hmT (hr.mono (by decide)) (LamX.lamS_by (sc := defScope s_l_refused) (by decide +kernel)) rfl (fun _ _ _ _ _ => rfl) (fun A outer s H E f d hr => (pe_or2 (pe_callL (i := 5) G_alike (hr.mono (by decide)) (by rfl) (by first | exact Or.inl rfl | exact Or.inr (Or.inl rfl) | exact Or.inr (Or.inr rfl)) T.F_alike.kp T.b_alike .nil (passE (E := E)) (pa_cons (pv 4) (pa_cons (pe_lst (pa_cons pe_non pa_nil)) pa_nil))) (pe_callL (i := 5) G_alike_lots (hr.mono (by decide)) (by rfl) (by first | exact Or.inl rfl | exact Or.inr (Or.inl rfl) | exact Or.inr (Or.inr rfl)) T.F_alike_lots.kp T.b_alike_lots .nil (passE (E := E)) (pa_cons (pv 4) (pa_cons (pe_lst (pa_cons pe_non pa_nil)) pa_nil)))))) (pe_tup (pa_cons pe_str (pa_cons (pv 3) pa_nil))) (nomark _))
 (pss_one (ps_ret pe_bl))
 pss_nil)
 (pss_one (ps_if (pt_cmpR (op_neD hr.units) (pe_lamarg (T := Tbs.T) (TT := TTl_how T) (t := fun E => (tOr2E (tCallL 5 T.a_alike (spD K (pr_alike T)) [] E (tCons (tVar 1) (tCons (tOp rCat (tVar 4) (tLst (tCons (tC .non) tNil))) tNil))) (tCallL 5 T.a_alike_lots (spD K (pr_alike_lots T)) [] E (tCons (tVar 1) (tCons (tOp rCat (tVar 4) (tLst (tCons (tC .non) tNil))) tNil))))) (k := 13) (by rfl) T.g_l_how T.F_l_how.kp lk_l_how cd_l_how bd_l_how sc_l_how rfl (.inl rfl) (l_how_gives T rfl rfl) TB rfl hmT (hr.mono (by decide)) (LamX.lamS_by (sc := defScope s_l_refused) (by decide +kernel)) rfl (fun _ _ _ _ _ => rfl) (fun A outer s H E f d hr => (pe_or2 (pe_callL (i := 5) G_alike (hr.mono (by decide)) (by rfl) (by first | exact Or.inl rfl | exact Or.inr (Or.inl rfl) | exact Or.inr (Or.inr rfl)) T.F_alike.kp T.b_alike .nil (passE (E := E)) (pa_cons (pv 1) (pa_cons (pe_op op_cat (pv 4) (pe_lst (pa_cons pe_non pa_nil))) pa_nil))) (pe_callL (i := 5) G_alike_lots (hr.mono (by decide)) (by rfl) (by first | exact Or.inl rfl | exact Or.inr (Or.inl rfl) | exact Or.inr (Or.inr rfl)) T.F_alike_lots.kp T.b_alike_lots .nil (passE (E := E)) (pa_cons (pv 1) (pa_cons (pe_op op_cat (pv 4) (pe_lst (pa_cons pe_non pa_nil))) pa_nil)))))) (pe_tup (pa_cons pe_str (pa_cons (pv 3) pa_nil))) (nomark _))
 (pss_one (ps_ret pe_bl))
 pss_nil)))))
 (pss_cons (ps_for (passes_of rfl) rfl (pi_list (pe_lst (pa_cons (pe_glob (v := .ref T.a_list_key) (by rfl) T.g_list_key rfl) (pa_cons (pe_glob (v := .ref T.a_lot_key) (by rfl) T.g_lot_key rfl) pa_nil)))) (pg_name (i := 5) sc_l_refused.nd rfl (.inr rfl))
 (pss_one (ps_if (pt_cmpR (op_neD hr.units) (pe_lamarg (T := Tbs.T) (TT := TTl_how T) (t := fun E => (tOr2E (tCallL 5 T.a_list_key (spD K (pr_list_key T)) [] E (tCons (tOp rCat (tVar 4) (tLst (tCons (tC .non) tNil))) tNil)) (tCallL 5 T.a_lot_key (spD K (pr_lot_key T)) [] E (tCons (tOp rCat (tVar 4) (tLst (tCons (tC .non) tNil))) tNil)))) (k := 13) (by rfl) T.g_l_how T.F_l_how.kp lk_l_how cd_l_how bd_l_how sc_l_how rfl (.inl rfl) (l_how_gives T rfl rfl) TB rfl hmT (hr.mono (by decide)) (LamX.lamS_by (sc := defScope s_l_refused) (by decide +kernel)) rfl (fun _ _ _ _ _ => rfl) (fun A outer s H E f d hr => (pe_or2 (pe_callL (i := 5) G_list_key (hr.mono (by decide)) (by rfl) (by first | exact Or.inl rfl | exact Or.inr (Or.inl rfl) | exact Or.inr (Or.inr rfl)) T.F_list_key.kp T.b_list_key .nil (passE (E := E)) (pa_cons (pe_op op_cat (pv 4) (pe_lst (pa_cons pe_non pa_nil))) pa_nil)) (pe_callL (i := 5) G_lot_key (hr.mono (by decide)) (by rfl) (by first | exact Or.inl rfl | exact Or.inr (Or.inl rfl) | exact Or.inr (Or.inr rfl)) T.F_lot_key.kp T.b_lot_key .nil (passE (E := E)) (pa_cons (pe_op op_cat (pv 4) (pe_lst (pa_cons pe_non pa_nil))) pa_nil))))) (pe_tup (pa_cons pe_str (pa_cons (pv 3) pa_nil))) (nomark _))
 (pss_one (ps_ret pe_bl))
 pss_nil)))
 (pss_one (ps_ret pe_bl))))))), run_body (ρ := [some penF, some (.lst (L.map (plT T))), none, none, none, none]) hs hR hK hX rfl ?_⟩
  refine ws_cut (fun ρ' B1 => ∃ (n : Nat) (dw : D), ρ' = [some penF, some (.lst (L.map (plT T))), some (.int n), some dw, none, none] ∧ n < L.length ∧ WrD dw ∧ B1 ≤ B + 2) ?_ ?_
  · refine ws_par <| wa_cons <| we_call <| wa_cons <| we_var rfl <| wa_cons <| we_lenL <| wa_cons <| we_var rfl <| wa_nil ⟨_, rfl, wa_nil ⟨_, rfl, by rw [List.length_map]; omega, by rw [List.length_map]; omega, by omega, fun at0 d0 d1 => wa_cons <| we_call <| wa_cons <| we_var rfl <| wa_cons <| we_lst <| wa_cons <| we_non <| wa_cons <| we_int <| wa_cons ?_⟩⟩
    refine we_tup <| wa_cons <| we_int <| wa_cons <| we_int <| wa_cons <| we_int <| wa_nil ⟨Nat.le_of_ble_eq_true rfl, wa_cons <| we_str <| wa_cons <| we_lst <| wa_nil ⟨Nat.le_of_ble_eq_true rfl, wa_nil ⟨Nat.le_of_ble_eq_true rfl, wa_nil ⟨_, rfl, by show 0 < 5; decide, by show 5 ≤ 1000; decide, by omega, fun f hf => wa_nil ⟨_, _, rfl, ?_⟩⟩⟩⟩⟩
    rw [List.length_map] at d1
    obtain ⟨n, rfl⟩ := Int.eq_ofNat_of_zero_le d0
    refine ⟨n, f, rfl, by omega, ?_, by omega⟩
    simp only [List.mem_cons, List.not_mem_nil, or_false] at hf
    exact hf
  rintro _ B1 ⟨n, dw, rfl, hn, hw, hB1⟩
  have pw : plainD dw = true := by rcases hw with rfl | rfl | rfl | rfl | rfl <;> rfl
  have okW : pyOk (.tup [.str "place", dw]) = true := by rcases hw with rfl | rfl | rfl | rfl | rfl <;> rfl
  have shW : SeqAt.shaped (py (.tup [.str "place", dw])) = true := by rcases hw with rfl | rfl | rfl | rfl | rfl <;> decide +kernel
  have gL : AllG T (L.map (plT T)) := gd_pl T L
  have hlL : (L.map (plT T)).length = L.length := List.length_map ..
  have h100 : 100 < sizeLine := by decide
  have c1 := cut1 (L.map (plT T)) (by omega)
  have hcat : (L.map (plT T)).length + (cutD (L.map (plT T)) none (some 1)).length ≤ sizeLine := by omega
  have gLL : AllG T (L.map (plT T) ++ cutD (L.map (plT T)) none (some 1)) := fun x hx => by
    rcases List.mem_append.mp hx with h | h
    · exact gL x h
    · exact gL x (List.mem_of_mem_drop (List.mem_of_mem_take h))
  have neL : (L.map (plT T)).length ≠ (L.map (plT T) ++ cutD (L.map (plT T)) none (some 1)).length := by rw [List.length_append]; omega
  have lenE : (((L.map (plT T) ++ cutD (L.map (plT T)) none (some 1)).length : Nat) : Int) = ((L.map (plT T)).length : Int) + 1 := by rw [List.length_append, c1]; push_cast; rfl
  have bad0 : ∀ zs : List D, BadAt T ((L.map (plT T)).set n dw ++ zs) dw := fun zs => ⟨n, by rw [List.getElem?_append_left (by rw [List.length_set]; omega), List.getElem?_set_self (by omega)], pw, fun i x hi hx => by
    rw [List.getElem?_append_left (by rw [List.length_set]; omega), List.getElem?_set_ne (by omega)] at hx
    exact gL x (List.mem_of_getElem? hx)⟩
  have badL : BadAt T ((L.map (plT T)).set n dw) dw := by have := bad0 []; rwa [List.append_nil] at this
  have badN := bad0 [.non]
  have hcb : ((L.map (plT T)).set n dw).length + ([D.non] : List D).length ≤ sizeLine := by rw [List.length_set]; show _ + 1 ≤ _; omega
  refine wb_startL (Nat.le_of_ble_eq_true rfl) <| wa_cons <| we_var rfl <| wa_nil ⟨_, rfl, ?_⟩
  refine wb_wso <| wo_item <| we_var rfl <| we_var rfl ⟨n, rfl, by omega, ?_⟩
  refine wb_end (Nat.le_of_ble_eq_true rfl) ?_
  refine ws_cut (fun ρ' B' => (∃ o5, ρ' = [some penF, some (.lst (L.map (plT T))), some (.int n), some dw, some (.lst ((L.map (plT T)).set n dw)), o5]) ∧ B1 = B') ?_ ?_
  · refine ws_for_list <| we_lst <| wa_cons <| we_val <| wa_cons <| we_val <| wa_nil ⟨Nat.le_of_ble_eq_true rfl, _, rfl, fun i ρ' B' => (∃ o5, ρ' = [some penF, some (.lst (L.map (plT T))), some (.int n), some dw, some (.lst ((L.map (plT T)).set n dw)), o5]) ∧ B1 = B', ⟨⟨_, rfl⟩, rfl⟩, fun i x ρ' B' hi hI => ?_, fun ρ' B' hI => hI⟩
    obtain ⟨⟨o5, rfl⟩, rfl⟩ := hI
    refine wg_name ?_
    rcases i with _ | _ | i
    · cases hi
      refine ws_cut (fun ρ' B' => ρ' = [some penF, some (.lst (L.map (plT T))), some (.int n), some dw, some (.lst ((L.map (plT T)).set n dw)), some (.val (.ref T.a_alike))] ∧ B1 = B') ?_ ?_
      · refine ws_if <| wt_test <| we_op <| we_lamarg (i := 0) (tt_how T) rfl rfl hmT huT fun Ech => we_orL <| we_callL rfl <| we_callE <| wa_cons <| we_var rfl <| wa_cons <| we_op <| we_var rfl <| we_slL <| we_var rfl ⟨_, rfl, wo_no <| wo_part <| we_int ⟨_, rfl, ro_catL hcat <| wa_nil ⟨false, false, _, _, rfl, .inr <| .inr <| .inr ⟨gL, gLL, neL, ?_⟩⟩⟩⟩
        refine .inl ⟨rfl, _, _, rfl, we_tup <| wa_cons <| we_str <| wa_cons <| we_lenL <| wa_cons <| we_var rfl <| wa_nil ⟨_, rfl, wa_cons <| we_op <| we_lenL <| wa_cons <| we_var rfl <| wa_nil ⟨_, rfl, we_int <| ro_i0 <| wa_nil ⟨Nat.le_of_ble_eq_true rfl, ro_neD rfl rfl (sh_un _ _) (sh_un _ _) ?_⟩⟩⟩⟩
        rw [lenE, eqv_self]
        exact ⟨_, rfl, (fun h => nomatch h), fun _ => ws_next ⟨rfl, rfl⟩⟩
      rintro _ _ ⟨rfl, rfl⟩
      refine ws_cut (fun ρ' B' => ρ' = [some penF, some (.lst (L.map (plT T))), some (.int n), some dw, some (.lst ((L.map (plT T)).set n dw)), some (.val (.ref T.a_alike))] ∧ B1 = B') ?_ ?_
      · refine ws_if <| wt_test <| we_op <| we_lamarg (i := 0) (tt_how T) rfl rfl hmT huT fun Ech => we_orL <| we_callL rfl <| we_callE <| wa_cons <| we_var rfl <| wa_cons <| we_lst <| wa_cons <| we_non <| wa_nil ⟨Nat.le_of_ble_eq_true rfl, wa_nil ⟨false, false, _, _, rfl, .inr <| .inl ⟨dw, badL, ?_⟩⟩⟩
        exact .inr ⟨rfl, _, rfl, we_tup <| wa_cons <| we_str <| wa_cons <| we_var rfl <| wa_nil ⟨Nat.le_of_ble_eq_true rfl, ro_neD okW okW shW shW (by rw [eqv_self]; exact ⟨_, rfl, (fun h => nomatch h), fun _ => ws_next ⟨rfl, rfl⟩⟩)⟩⟩
      rintro _ _ ⟨rfl, rfl⟩
      refine ws_if <| wt_test <| we_op <| we_lamarg (i := 0) (tt_how T) rfl rfl hmT huT fun Ech => we_orL <| we_callL rfl <| we_callE <| wa_cons <| we_var rfl <| wa_cons <| we_op <| we_var rfl <| we_lst <| wa_cons <| we_non <| wa_nil ⟨Nat.le_of_ble_eq_true rfl, ro_catL hcb <| wa_nil ⟨false, false, _, _, rfl, .inr <| .inr <| .inl ⟨gL, dw, badN, ?_⟩⟩⟩
      exact .inr ⟨rfl, _, rfl, we_tup <| wa_cons <| we_str <| wa_cons <| we_var rfl <| wa_nil ⟨Nat.le_of_ble_eq_true rfl, ro_neD okW okW shW shW (by rw [eqv_self]; exact ⟨_, rfl, (fun h => nomatch h), fun _ => ws_next ⟨⟨_, rfl⟩, rfl⟩⟩)⟩⟩
    · cases hi
      refine ws_cut (fun ρ' B' => ρ' = [some penF, some (.lst (L.map (plT T))), some (.int n), some dw, some (.lst ((L.map (plT T)).set n dw)), some (.val (.ref T.a_alike_lots))] ∧ B1 = B') ?_ ?_
      · refine ws_if <| wt_test <| we_op <| we_lamarg (i := 0) (tt_how T) rfl rfl hmT huT fun Ech => we_orR <| we_callL rfl <| we_callE <| wa_cons <| we_var rfl <| wa_cons <| we_op <| we_var rfl <| we_slL <| we_var rfl ⟨_, rfl, wo_no <| wo_part <| we_int ⟨_, rfl, ro_catL hcat <| wa_nil ⟨false, false, _, _, rfl, .inr <| .inr <| .inr ⟨gL, gLL, neL, ?_⟩⟩⟩⟩
        refine .inl ⟨rfl, _, _, rfl, we_tup <| wa_cons <| we_str <| wa_cons <| we_lenL <| wa_cons <| we_var rfl <| wa_nil ⟨_, rfl, wa_cons <| we_op <| we_lenL <| wa_cons <| we_var rfl <| wa_nil ⟨_, rfl, we_int <| ro_i0 <| wa_nil ⟨Nat.le_of_ble_eq_true rfl, ro_neD rfl rfl (sh_un _ _) (sh_un _ _) ?_⟩⟩⟩⟩
        rw [lenE, eqv_self]
        exact ⟨_, rfl, (fun h => nomatch h), fun _ => ws_next ⟨rfl, rfl⟩⟩
      rintro _ _ ⟨rfl, rfl⟩
      refine ws_cut (fun ρ' B' => ρ' = [some penF, some (.lst (L.map (plT T))), some (.int n), some dw, some (.lst ((L.map (plT T)).set n dw)), some (.val (.ref T.a_alike_lots))] ∧ B1 = B') ?_ ?_
      · refine ws_if <| wt_test <| we_op <| we_lamarg (i := 0) (tt_how T) rfl rfl hmT huT fun Ech => we_orR <| we_callL rfl <| we_callE <| wa_cons <| we_var rfl <| wa_cons <| we_lst <| wa_cons <| we_non <| wa_nil ⟨Nat.le_of_ble_eq_true rfl, wa_nil ⟨false, false, _, _, rfl, .inr <| .inl ⟨dw, badL, ?_⟩⟩⟩
        exact .inr ⟨rfl, _, rfl, we_tup <| wa_cons <| we_str <| wa_cons <| we_var rfl <| wa_nil ⟨Nat.le_of_ble_eq_true rfl, ro_neD okW okW shW shW (by rw [eqv_self]; exact ⟨_, rfl, (fun h => nomatch h), fun _ => ws_next ⟨rfl, rfl⟩⟩)⟩⟩
      rintro _ _ ⟨rfl, rfl⟩
      refine ws_if <| wt_test <| we_op <| we_lamarg (i := 0) (tt_how T) rfl rfl hmT huT fun Ech => we_orR <| we_callL rfl <| we_callE <| wa_cons <| we_var rfl <| wa_cons <| we_op <| we_var rfl <| we_lst <| wa_cons <| we_non <| wa_nil ⟨Nat.le_of_ble_eq_true rfl, ro_catL hcb <| wa_nil ⟨false, false, _, _, rfl, .inr <| .inr <| .inl ⟨gL, dw, badN, ?_⟩⟩⟩
      exact .inr ⟨rfl, _, rfl, we_tup <| wa_cons <| we_str <| wa_cons <| we_var rfl <| wa_nil ⟨Nat.le_of_ble_eq_true rfl, ro_neD okW okW shW shW (by rw [eqv_self]; exact ⟨_, rfl, (fun h => nomatch h), fun _ => ws_next ⟨⟨_, rfl⟩, rfl⟩⟩)⟩⟩
    · cases hi
  rintro _ _ ⟨⟨o5, rfl⟩, rfl⟩
  refine ws_cut (fun ρ' B' => (∃ o5, ρ' = [some penF, some (.lst (L.map (plT T))), some (.int n), some dw, some (.lst ((L.map (plT T)).set n dw)), o5]) ∧ B1 = B') ?_ ?_
  · refine ws_for_list <| we_lst <| wa_cons <| we_val <| wa_cons <| we_val <| wa_nil ⟨Nat.le_of_ble_eq_true rfl, _, rfl, fun i ρ' B' => (∃ o5, ρ' = [some penF, some (.lst (L.map (plT T))), some (.int n), some dw, some (.lst ((L.map (plT T)).set n dw)), o5]) ∧ B1 = B', ⟨⟨_, rfl⟩, rfl⟩, fun i x ρ' B' hi hI => ?_, fun ρ' B' hI => hI⟩
    obtain ⟨⟨o5, rfl⟩, rfl⟩ := hI
    refine wg_name ?_
    rcases i with _ | _ | i
    · cases hi
      refine ws_if <| wt_test <| we_op <| we_lamarg (i := 0) (tt_how T) rfl rfl hmT huT fun Ech => we_orL <| we_callL rfl <| we_callE <| wa_cons <| we_op <| we_var rfl <| we_lst <| wa_cons <| we_non <| wa_nil ⟨Nat.le_of_ble_eq_true rfl, ro_catL hcb <| wa_nil ⟨false, _, rfl, .inr ⟨dw, badN, ?_⟩⟩⟩
      exact .inr ⟨rfl, _, rfl, we_tup <| wa_cons <| we_str <| wa_cons <| we_var rfl <| wa_nil ⟨Nat.le_of_ble_eq_true rfl, ro_neD okW okW shW shW (by rw [eqv_self]; exact ⟨_, rfl, (fun h => nomatch h), fun _ => ws_next ⟨⟨_, rfl⟩, rfl⟩⟩)⟩⟩
    · cases hi
      refine ws_if <| wt_test <| we_op <| we_lamarg (i := 0) (tt_how T) rfl rfl hmT huT fun Ech => we_orR <| we_callL rfl <| we_callE <| wa_cons <| we_op <| we_var rfl <| we_lst <| wa_cons <| we_non <| wa_nil ⟨Nat.le_of_ble_eq_true rfl, ro_catL hcb <| wa_nil ⟨false, _, rfl, .inr ⟨dw, badN, ?_⟩⟩⟩
      exact .inr ⟨rfl, _, rfl, we_tup <| wa_cons <| we_str <| wa_cons <| we_var rfl <| wa_nil ⟨Nat.le_of_ble_eq_true rfl, ro_neD okW okW shW shW (by rw [eqv_self]; exact ⟨_, rfl, (fun h => nomatch h), fun _ => ws_next ⟨⟨_, rfl⟩, rfl⟩⟩)⟩⟩
    · cases hi
  rintro _ _ ⟨⟨o5, rfl⟩, rfl⟩
  exact ws_ret (we_bl (hk _ hB1))
end
end AW

set_option linter.all false
set_option maxRecDepth 100000
set_option maxHeartbeats 8000000
namespace AW
open PySem PySem.Spec PyProof.Rows L2
variable [Tbs]
section
variable {P : Program} {w : World} {K : PySem.W.Frag} {mg : Str → Option Value} {base : Heap}
theorem ok_lm {α : Type} {f : α → D} (h : ∀ a, pyOk (f a) = true) (L : List α) : pyOk (.lst (L.map f)) = true := by
  show pyOkL (L.map f) = true
  induction L with
  | nil => rfl
  | cons a r ih => show (pyOk (f a) && pyOkL (r.map f)) = true; rw [h, ih]; rfl
theorem sh_lm {α : Type} {f : α → D} (h1 : ∀ a, (py (f a)).canLay0 = true) (h2 : ∀ a, (py (f a)).depth ≤ 4) (L : List α) : SeqAt.shaped (py (.lst (L.map f))) = true := by
  refine shaped_of ?_ (decide_eq_true ?_)
  · show (PyData.list (pyL (L.map f))).canLay0 = true
    have : PyData.canLayAll0 (pyL (L.map f)) = true := by
      induction L with
      | nil => rfl
      | cons a r ih => show PyData.canLayAll0 (py (f a) :: pyL (r.map f)) = true; simp only [PyData.canLayAll0, h1, ih, Bool.and_true]
    simpa [PyData.canLay0] using this
  · show (PyData.list (pyL (L.map f))).depth ≤ 64
    have : PyData.depthAll (pyL (L.map f)) ≤ 4 := by
      induction L with
      | nil => simp [pyL, PyData.depthAll]
      | cons a r ih =>
        show PyData.depthAll (py (f a) :: pyL (r.map f)) ≤ 4
        have := h2 a
        simp only [PyData.depthAll]
        omega
    simp only [PyData.depth]
    omega
theorem eqv_lm {α : Type} [DecidableEq α] {f : α → D} (h : ∀ a b, PyData.eqv (py (f a)) (py (f b)) = true → a = b) (L M : List α) : PyData.eqv (py (.lst (L.map f))) (py (.lst (M.map f))) = decide (L = M) := by
  by_cases e : L = M
  · subst e
    rw [eqv_self, decide_eq_true rfl]
  · rw [decide_eq_false e, Bool.eq_false_iff]
    intro z
    apply e
    have : ∀ L M : List α, PyData.eqvAll (pyL (L.map f)) (pyL (M.map f)) = true → L = M := by
      intro L
      induction L with
      | nil =>
        intro M h
        cases M with
        | nil => rfl
        | cons b s => simp [pyL, PyData.eqvAll] at h
      | cons a r ih =>
        intro M h1
        cases M with
        | nil => simp [pyL, PyData.eqvAll] at h1
        | cons b s =>
          have h1 : (PyData.eqv (py (f a)) (py (f b)) && PyData.eqvAll (pyL (r.map f)) (pyL (s.map f))) = true := h1
          rw [Bool.and_eq_true] at h1
          rw [ih s h1.2, h a b h1.1]
    exact this L M z

theorem dep_tD (p : T3) : (py (tD p)).depth ≤ 4 := by
  show (PyData.tuple [.int _, .int _, .int _]).depth ≤ 4
  simp [PyData.depth, PyData.depthAll]
theorem eqv_tDs (L M : List T3) : PyData.eqv (py (.lst (L.map tD))) (py (.lst (M.map tD))) = decide (L = M) := eqv_lm (fun a b h => by
  rw [eqv_t3] at h
  obtain ⟨h1, h2, h3⟩ := of_decide_eq_true h
  exact Prod.ext h1 (Prod.ext h2 h3)) L M
theorem cut3 (xs : List D) : cutD xs none (some 3) = xs.take 3 := by
  unfold cutD
  rw [HT.sIx_none, List.drop_zero, show (3 : Int) = ((3 : Nat) : Int) from rfl, HT.sIx_nat]
  by_cases h : xs.length ≤ 3
  · rw [List.take_of_length_le h, List.take_of_length_le (by omega)]
  · congr 1
    omega
def pr_law (T : Tx K mg) : Pr := fun ds B k e => ∃ ns : List Int, ds = [.scr ns] ∧ ns.length ≤ 63 ∧ B = 0 ∧ ∀ B', k (.bl true) B'
theorem okD_law (T : Tx K mg) (TB_l_refused : LamX.TabB base mg T.cc_l_refused T.pt_l_refused) (hT : Tbs.T = tabs1 T) (hN : ((tabs1 T).map Prod.fst).Nodup) : FnOk P w K mg base (L2.CX P w) 17 T.a_law T.d_law P_law (spD K (pr_law T)) := by
  refine T.F_law.okX sc_law (spD_len fun ds B k e h => by obtain ⟨ns, rfl, hl, rfl, hk⟩ := h; rfl) (fun cdv A outer s H vs Q E hr h => ?_)
  have G_alike : FnOk P w K mg base (L2.CX P w) 12 _ _ _ _ := okD_alike T
  have G_l_begin : FnOk P w K mg base (L2.CX P w) 1 _ _ _ _ := okD_l_begin T
  have G_l_list : FnOk P w K mg base (L2.CX P w) 10 _ _ _ _ := okD_l_list T
  have G_l_onto : FnOk P w K mg base (L2.CX P w) 4 _ _ _ _ := okD_l_onto T
  have G_l_place : FnOk P w K mg base (L2.CX P w) 6 _ _ _ _ := okD_l_place T
  have G_l_refused : FnOk P w K mg base (L2.CX P w) 16 _ _ _ _ := okD_l_refused T (TB := TB_l_refused) (hT := hT) (hN := hN)
  have G_l_renamed : FnOk P w K mg base (L2.CX P w) 2 _ _ _ _ := okD_l_renamed T
  have G_l_row : FnOk P w K mg base (L2.CX P w) 3 _ _ _ _ := okD_l_row T
  have G_l_six : FnOk P w K mg base (L2.CX P w) 4 _ _ _ _ := okD_l_six T
  have G_l_twist : FnOk P w K mg base (L2.CX P w) 1 _ _ _ _ := okD_l_twist T
  have G_list_key : FnOk P w K mg base (L2.CX P w) 10 _ _ _ _ := okD_list_key T
  obtain ⟨G, ds, B, k, e, hs, hR, ⟨ns, rfl, hl, rfl, hk⟩, hK, hX⟩ := h
  refine ⟨_, (pss_cons (ps_set (i := 1) sc_law.nd rfl (.inl rfl) (pe_call G_l_begin (hr.mono (by decide)) (by rfl) T.g_l_begin T.F_l_begin.kp T.b_l_begin .nil passL (pa_cons (pv 0) pa_nil)))
 (pss_cons (ps_for (passes_of rfl) rfl (pi_range1 (by rfl) T.n_range (pa_cons pe_int pa_nil)) (pg_name (i := 2) sc_law.nd rfl (.inl rfl))
 (pss_cons (ps_asg (pe_tup (pa_cons (pe_call G_l_list (hr.mono (by decide)) (by rfl) T.g_l_list T.F_l_list.kp T.b_l_list .nil passL (pa_cons (pv 1) (pa_cons pe_int pa_nil))) (pa_cons (pe_call G_l_onto (hr.mono (by decide)) (by rfl) T.g_l_onto T.F_l_onto.kp T.b_l_onto .nil passL (pa_cons (pv 1) pa_nil)) pa_nil))) (pg_tup rfl (pgs_cons (pg_name (i := 3) sc_law.nd rfl (.inl rfl)) (pgs_cons (pg_name (i := 4) sc_law.nd rfl (.inr rfl)) pgs_nil))))
 (pss_cons (ps_setLc (i := 5) (te := (tCall (spD K (pr_l_renamed T)) [] E0 (tCons (tVar 4) (tCons (tVar 9) tNil)))) (own := [("_law_row_here", 9)]) (g := gName 9) (by rfl) sc_law.nd rfl rfl (sw_true rfl rfl rfl (by decide +kernel)) (pi_list (pv 3)) (blkOk_by (own := [("_law_row_here", 9)]) (N := N_law) (sc := defScope s_law) (by decide +kernel)) (fun _ _ _ _ _ => pg_name (i := 9) sc_law.nd rfl (Or.inl rfl)) (fun _ _ _ _ _ => pts_nil) (fun _ _ _ _ _ => (pe_call G_l_renamed (hr.mono (by decide)) (by rfl) T.g_l_renamed T.F_l_renamed.kp T.b_l_renamed .nil passL (pa_cons (pv 4) (pa_cons (pv 9) pa_nil)))))
 (pss_cons (ps_par (i := 6) (j := 7) (by rfl) sc_law.nd rfl rfl (by decide) rfl rfl (pa_cons (pe_lc (te := (tCall (spD K (pr_l_place T)) [] E0 (tCons (tVar 9) tNil))) (own := [("_law_row_here", 9)]) (g := gName 9) (by rfl) sc_law.nd (pi_list (pv 3)) (blkOk_by (own := [("_law_row_here", 9)]) (N := N_law) (sc := defScope s_law) (by decide +kernel)) (fun _ _ _ _ _ => pg_name (i := 9) sc_law.nd rfl (Or.inl rfl)) (fun _ _ _ _ _ => pts_nil) (fun _ _ _ _ _ => (pe_call G_l_place (hr.mono (by decide)) (by rfl) T.g_l_place T.F_l_place.kp T.b_l_place .nil passL (pa_cons (pv 9) pa_nil)))) (pa_cons (pe_lc (te := (tCall (spD K (pr_l_place T)) [] E0 (tCons (tVar 9) tNil))) (own := [("_law_row_here", 9)]) (g := gName 9) (by rfl) sc_law.nd (pi_list (pv 5)) (blkOk_by (own := [("_law_row_here", 9)]) (N := N_law) (sc := defScope s_law) (by decide +kernel)) (fun _ _ _ _ _ => pg_name (i := 9) sc_law.nd rfl (Or.inl rfl)) (fun _ _ _ _ _ => pts_nil) (fun _ _ _ _ _ => (pe_call G_l_place (hr.mono (by decide)) (by rfl) T.g_l_place T.F_l_place.kp T.b_l_place .nil passL (pa_cons (pv 9) pa_nil)))) pa_nil)) (by rfl))
 (pss_cons (ps_set (i := 8) sc_law.nd rfl (.inr rfl) (pe_call G_l_six (hr.mono (by decide)) (by rfl) T.g_l_six T.F_l_six.kp T.b_l_six .nil passL (pa_cons (pe_call G_alike (hr.mono (by decide)) (by rfl) T.g_alike T.F_alike.kp T.b_alike .nil passL (pa_cons (pv 6) (pa_cons (pe_callTy call_tuple_of (by rfl) T.n_tuple (by decide +kernel) (pa_cons (pv 7) pa_nil)) pa_nil))) pa_nil)))
 (pss_cons (ps_if (PW.pt (pw_or (pt_cmp (pc_isN (pv 8))) (pw_or1 (pt_cmpR (op_ninT (un65 hr)) (pe_call G_l_twist (hr.mono (by decide)) (by rfl) T.g_l_twist T.F_l_twist.kp T.b_l_twist .nil passL (pa_cons (pe_ix ix_tup (pv 8) pe_int (fun _ _ => rfl)) (pa_cons (pe_ix ix_tup (pv 8) pe_int (fun _ _ => rfl)) pa_nil))) (pe_tup (pa_cons pe_int (pa_cons (pe_un un_neg pe_int) pa_nil))) (by rfl)))))
 (pss_one (ps_ret pe_bl))
 pss_nil)
 (pss_cons (ps_if (pt_cmpR (op_neD hr.units) (pe_lc (te := (tCall (spD K (pr_l_renamed T)) [] E0 (tCons (tVar 8) (tCons (tVar 9) tNil)))) (own := [("_law_row_here", 9)]) (g := gName 9) (by rfl) sc_law.nd (pi_list (pv 3)) (blkOk_by (own := [("_law_row_here", 9)]) (N := N_law) (sc := defScope s_law) (by decide +kernel)) (fun _ _ _ _ _ => pg_name (i := 9) sc_law.nd rfl (Or.inl rfl)) (fun _ _ _ _ _ => pts_nil) (fun _ _ _ _ _ => (pe_call G_l_renamed (hr.mono (by decide)) (by rfl) T.g_l_renamed T.F_l_renamed.kp T.b_l_renamed .nil passL (pa_cons (pv 8) (pa_cons (pv 9) pa_nil))))) (pv 5) (nomark _))
 (pss_one (ps_ret pe_bl))
 pss_nil)
 (pss_cons (ps_if (pt_cmpR (op_neD hr.units) (pe_call G_list_key (hr.mono (by decide)) (by rfl) T.g_list_key T.F_list_key.kp T.b_list_key .nil passL (pa_cons (pe_callTy call_tuple_of (by rfl) T.n_tuple (by decide +kernel) (pa_cons (pv 6) pa_nil)) pa_nil)) (pe_call G_list_key (hr.mono (by decide)) (by rfl) T.g_list_key T.F_list_key.kp T.b_list_key .nil passL (pa_cons (pv 7) pa_nil)) (nomark _))
 (pss_one (ps_ret pe_bl))
 pss_nil)
 (pss_cons (ps_if (PW.pt (pw_or (pt_cmpR (op_neD hr.units) (pe_lc (te := (tCall (spD K (pr_l_row T)) [] E0 (tCons (tVar 10) tNil))) (own := [("_law_place_here", 10)]) (g := gName 10) (by rfl) sc_law.nd (pi_list (pv 6)) (blkOk_by (own := [("_law_place_here", 10)]) (N := N_law) (sc := defScope s_law) (by decide +kernel)) (fun _ _ _ _ _ => pg_name (i := 10) sc_law.nd rfl (Or.inl rfl)) (fun _ _ _ _ _ => pts_nil) (fun _ _ _ _ _ => (pe_call G_l_row (hr.mono (by decide)) (by rfl) T.g_l_row T.F_l_row.kp T.b_l_row .nil passL (pa_cons (pv 10) pa_nil)))) (pv 3) (nomark _)) (pw_or1 (pt_cmpR (op_neD hr.units) (pe_lc (te := (tCall (spD K (pr_l_row T)) [] E0 (tCons (tVar 10) tNil))) (own := [("_law_place_here", 10)]) (g := gName 10) (by rfl) sc_law.nd (pi_list (pv 7)) (blkOk_by (own := [("_law_place_here", 10)]) (N := N_law) (sc := defScope s_law) (by decide +kernel)) (fun _ _ _ _ _ => pg_name (i := 10) sc_law.nd rfl (Or.inl rfl)) (fun _ _ _ _ _ => pts_nil) (fun _ _ _ _ _ => (pe_call G_l_row (hr.mono (by decide)) (by rfl) T.g_l_row T.F_l_row.kp T.b_l_row .nil passL (pa_cons (pv 10) pa_nil)))) (pv 5) (nomark _)))))
 (pss_one (ps_ret pe_bl))
 pss_nil)
 (pss_one (ps_if (pt_not (pt_val (pe_call G_l_refused (hr.mono (by decide)) (by rfl) T.g_l_refused T.F_l_refused.kp T.b_l_refused .nil passL (pa_cons (pv 1) (pa_cons (pe_slice sl_list (pv 6) po_none (po_some pe_int)) pa_nil)))))
 (pss_one (ps_ret pe_bl))
 pss_nil)))))))))))
 (pss_one (ps_ret pe_bl)))), run_body (ρ := [some (.scr ns), none, none, none, none, none, none, none, none, none, none]) hs hR hK hX rfl ?_⟩
  refine ws_seq (ws_set (we_call (wa_cons (we_var rfl (wa_nil ⟨_, rfl, hl, Int.le_refl _, ?_⟩)))))
  refine ws_cut (fun ρ' B' => (∃ o2 o3 o4 o5 o6 o7 o8 o9 o10, ρ' = [some (.scr ns), some penF, o2, o3, o4, o5, o6, o7, o8, o9, o10]) ∧ B' ≤ 600) ?_ ?_
  · refine ws_for_range1 (wa_cons (we_int (wa_nil ⟨3, rfl, by decide, by decide, fun i ρ' B' => (∃ o2 o3 o4 o5 o6 o7 o8 o9 o10, ρ' = [some (.scr ns), some penF, o2, o3, o4, o5, o6, o7, o8, o9, o10]) ∧ B' ≤ 130 * i, ⟨⟨_, _, _, _, _, _, _, _, _, rfl⟩, by omega⟩, fun i ρ' B' hi hI => ?_, fun ρ' B' hI => ⟨hI.1, by have := hI.2; omega⟩⟩)))
    obtain ⟨⟨o2, o3, o4, o5, o6, o7, o8, o9, o10, rfl⟩, hB⟩ := hI
    have hi4 : i < 3 := hi
    refine wg_name ?_
    refine ws_cut (fun ρ' B4 => ∃ (L : List T3) (A : T6), ρ' = [some (.scr ns), some penF, some (.int (0 + i)), some (.lst (L.map tD)), some (t6 A), o5, o6, o7, o8, o9, o10] ∧ 1 ≤ L.length ∧ L.length ≤ 8 ∧ (∀ p ∈ L, Rw 60 60 p) ∧ On A ∧ SzC 50 60 A ∧ B4 ≤ B' + 120) ?_ ?_
    · refine ws_asg <| we_tup <| wa_cons <| we_call <| wa_cons <| we_var rfl <| wa_cons <| we_int <| wa_nil ⟨8, rfl, by decide, by decide, by omega, fun L B1 l1 l8 bL hB1 => wa_cons <| we_call <| wa_cons <| we_var rfl <| wa_nil ⟨rfl, by omega, fun p q s1 r t u B2 hp hq hs1 hr1 ht hu1 od hB2 => wa_nil ⟨Nat.le_of_ble_eq_true rfl, wg_tup rfl <| wgs_cons <| wg_name <| wgs_cons <| wg_name <| wgs_nil ⟨L, ((p, q, s1), (r, t, u)), rfl, l1, by omega, bL, od, ⟨hp, hq, hs1, hr1, ht, hu1⟩, by omega⟩⟩⟩⟩
    rintro _ B4 ⟨L, A, rfl, l1, l8, bL, hA, sA, hB4⟩
    obtain ⟨M, eM⟩ : ∃ M, M = L.map (im6 A) := ⟨_, rfl⟩
    have lM : M.length = L.length := by rw [eM, List.length_map]
    have bM : ∀ y ∈ M, Rw 111 225 y := fun y hy => by
      rw [eM] at hy
      obtain ⟨z, hz, rfl⟩ := List.mem_map.mp hy
      obtain ⟨b1, b2, b3⟩ := bL z hz
      exact im_bdg (M := 221) sA hA b1 b2 b3 (by decide) (by decide) (by decide) (by decide)
    have szL : SzL L := ⟨by omega, fun p hp => by
      obtain ⟨b1, b2, b3⟩ := bL p hp
      exact ⟨b1.mono (by decide), b2.mono (by decide), b3.mono (by decide)⟩⟩
    have szM : SzL M := ⟨by omega, fun p hp => by
      obtain ⟨b1, b2, b3⟩ := bM p hp
      exact ⟨b1.mono (by decide), b2.mono (by decide), b3.mono (by decide)⟩⟩
    have hsL : L.length < sizeLine := lt_sz l8
    have hsM : M.length < sizeLine := lt_sz (by omega)
    have ren : ∀ (F : T6), SzC 821 2928 F → ∀ {E : XK} {e : EW} {ρ : List (Option D)} {B : Int} {k' : KD} {ta tb : TE} {E1 : XK} (y : T3), y ∈ L → k' (tD (im6 F y)) B → (We K E e ta ρ B fun d B1 => d = t6 F ∧ B1 = B) → (We K E e tb ρ B fun d B1 => d = tD y ∧ B1 = B) → We K E e (tCall (spD K (pr_l_renamed T)) [] E1 (tCons ta (tCons tb tNil))) ρ B k' := fun F sF E e ρ B k' ta tb E1 y hy hk' h1 h2 => by
      obtain ⟨hp, hq, hs1, hr1, ht, hu1⟩ := sF
      obtain ⟨b1, b2, b3⟩ := bL y hy
      refine we_call <| wa_cons <| h1.imp fun d B1 ⟨ed, eB⟩ => wa_cons ?_
      subst ed eB
      refine h2.imp fun d B1 ⟨ed, eB⟩ => wa_nil ?_
      subst ed eB
      exact ⟨F.1.1, F.1.2.1, F.1.2.2, F.2.1, F.2.2.1, F.2.2.2, y.1, y.2.1, y.2.2, rfl, (by apply Bd.mono; (repeat (first | assumption | exact Bd.lit 64 (by decide +kernel) | exact Bd.lit 2000 (by decide +kernel) | apply Bd.neg | apply Bd.fdiv | apply Bd.mul | apply Bd.add2 | apply Bd.sub2)); decide), (by apply Bd.mono; (repeat (first | assumption | exact Bd.lit 64 (by decide +kernel) | exact Bd.lit 2000 (by decide +kernel) | apply Bd.neg | apply Bd.fdiv | apply Bd.mul | apply Bd.add2 | apply Bd.sub2)); decide), (by apply Bd.mono; (repeat (first | assumption | exact Bd.lit 64 (by decide +kernel) | exact Bd.lit 2000 (by decide +kernel) | apply Bd.neg | apply Bd.fdiv | apply Bd.mul | apply Bd.add2 | apply Bd.sub2)); decide), (by apply Bd.mono; (repeat (first | assumption | exact Bd.lit 64 (by decide +kernel) | exact Bd.lit 2000 (by decide +kernel) | apply Bd.neg | apply Bd.fdiv | apply Bd.mul | apply Bd.add2 | apply Bd.sub2)); decide), (by apply Bd.mono; (repeat (first | assumption | exact Bd.lit 64 (by decide +kernel) | exact Bd.lit 2000 (by decide +kernel) | apply Bd.neg | apply Bd.fdiv | apply Bd.mul | apply Bd.add2 | apply Bd.sub2)); decide), (by apply Bd.mono; (repeat (first | assumption | exact Bd.lit 64 (by decide +kernel) | exact Bd.lit 2000 (by decide +kernel) | apply Bd.neg | apply Bd.fdiv | apply Bd.mul | apply Bd.add2 | apply Bd.sub2)); decide), (by apply Bd.mono; (repeat (first | assumption | exact Bd.lit 64 (by decide +kernel) | exact Bd.lit 2000 (by decide +kernel) | apply Bd.neg | apply Bd.fdiv | apply Bd.mul | apply Bd.add2 | apply Bd.sub2)); decide), (by apply Bd.mono; (repeat (first | assumption | exact Bd.lit 64 (by decide +kernel) | exact Bd.lit 2000 (by decide +kernel) | apply Bd.neg | apply Bd.fdiv | apply Bd.mul | apply Bd.add2 | apply Bd.sub2)); decide), (by apply Bd.mono; (repeat (first | assumption | exact Bd.lit 64 (by decide +kernel) | exact Bd.lit 2000 (by decide +kernel) | apply Bd.neg | apply Bd.fdiv | apply Bd.mul | apply Bd.add2 | apply Bd.sub2)); decide), hk'⟩
    refine ws_cut (fun ρ' B5 => ρ' = [some (.scr ns), some penF, some (.int (0 + i)), some (.lst (L.map tD)), some (t6 A), some (.lst (M.map tD)), o6, o7, o8, o9, o10] ∧ B4 = B5) ?_ ?_
    · refine ws_set <| we_lc_toldL (E1 := E0) (f := tD) (g := fun y => tD (im6 A y)) <| we_var rfl ⟨L, rfl, hsL, fun y hy k' hk' => ren A (sA.mono (by decide) (by decide)) y hy hk' (we_var rfl ⟨rfl, rfl⟩) (we_var rfl ⟨rfl, rfl⟩), ?_⟩
      have e1 : L.map (fun y => tD (im6 A y)) = M.map tD := by rw [eM, List.map_map]; rfl
      rw [e1]
      exact ⟨rfl, rfl⟩
    rintro _ _ ⟨rfl, rfl⟩
    refine ws_cut (fun ρ' B5 => ρ' = [some (.scr ns), some penF, some (.int (0 + i)), some (.lst (L.map tD)), some (t6 A), some (.lst (M.map tD)), some (.lst (L.map (plT T))), some (.lst (M.map (plT T))), o8, o9, o10] ∧ B4 = B5) ?_ ?_
    · refine ws_par <| wa_cons <| we_lc_toldL (E1 := E0) (f := tD) (g := plT T) <| we_var rfl ⟨L, rfl, hsL, fun y hy k' hk' => we_call <| wa_cons <| we_var rfl <| wa_nil ⟨_, _, _, rfl, hk'⟩, wa_cons <| we_lc_toldL (E1 := E0) (f := tD) (g := plT T) <| we_var rfl ⟨M, rfl, hsM, fun y hy k' hk' => we_call <| wa_cons <| we_var rfl <| wa_nil ⟨_, _, _, rfl, hk'⟩, wa_nil ⟨_, _, rfl, ⟨rfl, rfl⟩⟩⟩⟩
    rintro _ _ ⟨rfl, rfl⟩
    have hal : AlikeL3 L M := ⟨A, hA, eM⟩
    refine ws_cut (fun ρ' B5 => ∃ F : T6, ρ' = [some (.scr ns), some penF, some (.int (0 + i)), some (.lst (L.map tD)), some (t6 A), some (.lst (M.map tD)), some (.lst (L.map (plT T))), some (.lst (M.map (plT T))), some (t6 F), o9, o10] ∧ On F ∧ M = L.map (im6 F) ∧ SzC 821 2928 F ∧ B4 = B5) ?_ ?_
    · exact ws_set <| we_call <| wa_cons <| we_call <| wa_cons <| we_var rfl <| wa_cons <| we_tupleL <| wa_cons <| we_var rfl <| wa_nil ⟨_, rfl, wa_nil ⟨false, true, _, _, rfl, .inl ⟨L, M, rfl, rfl, szL, szM, by omega, fun _ F hF eF sF => wa_nil ⟨_, _, _, _, _, _, rfl, ⟨F, rfl, hF, eF, sF, rfl⟩⟩, fun hn => absurd hal hn⟩⟩⟩
    rintro _ _ ⟨F, rfl, hF, eF, sF, rfl⟩
    obtain ⟨hp, hq, hs1, hr1, ht, hu1⟩ := id sF
    refine ws_cut (fun ρ' B8 => ρ' = [some (.scr ns), some penF, some (.int (0 + i)), some (.lst (L.map tD)), some (t6 A), some (.lst (M.map tD)), some (.lst (L.map (plT T))), some (.lst (M.map (plT T))), some (t6 F), o9, o10] ∧ B4 = B8) ?_ ?_
    · refine ws_if <| wt_or <| wt_val <| we_isN <| we_var rfl ⟨_, rfl, (fun h => nomatch h), fun _ => ?_⟩
      refine wt_test <| we_op <| we_call <| wa_cons <| we_op <| we_var rfl <| we_int <| ro_ixT rfl <| wa_cons <| we_op <| we_var rfl <| we_int <| ro_ixT rfl <| wa_nil ⟨F.1.1, F.1.2.1, F.1.2.2, F.2.1, F.2.2.1, F.2.2.2, rfl, (by apply Bd.mono; (repeat (first | assumption | exact Bd.lit 64 (by decide +kernel) | exact Bd.lit 2000 (by decide +kernel) | apply Bd.neg | apply Bd.fdiv | apply Bd.mul | apply Bd.add2 | apply Bd.sub2)); decide), (by apply Bd.mono; (repeat (first | assumption | exact Bd.lit 64 (by decide +kernel) | exact Bd.lit 2000 (by decide +kernel) | apply Bd.neg | apply Bd.fdiv | apply Bd.mul | apply Bd.add2 | apply Bd.sub2)); decide), (by apply Bd.mono; (repeat (first | assumption | exact Bd.lit 64 (by decide +kernel) | exact Bd.lit 2000 (by decide +kernel) | apply Bd.neg | apply Bd.fdiv | apply Bd.mul | apply Bd.add2 | apply Bd.sub2)); decide), (by apply Bd.mono; (repeat (first | assumption | exact Bd.lit 64 (by decide +kernel) | exact Bd.lit 2000 (by decide +kernel) | apply Bd.neg | apply Bd.fdiv | apply Bd.mul | apply Bd.add2 | apply Bd.sub2)); decide), we_tup <| wa_cons <| we_int <| wa_cons <| we_neg <| we_int ⟨_, rfl, wa_nil ⟨Nat.le_of_ble_eq_true rfl, ro_ninT rfl rfl rfl rfl ?_⟩⟩⟩
      rw [pm_one, decide_eq_true (show F.1.1 * F.2.2.1 - F.2.1 * F.1.2.1 = 1 ∨ F.1.1 * F.2.2.1 - F.2.1 * F.1.2.1 = -1 from hF)]
      exact ⟨_, rfl, (fun h => nomatch h), fun _ => ws_next ⟨rfl, rfl⟩⟩
    rintro _ _ ⟨rfl, rfl⟩
    have okD : ∀ X : List T3, pyOk (.lst (X.map tD)) = true := ok_lm (fun _ => rfl)
    have shD : ∀ X : List T3, SeqAt.shaped (py (.lst (X.map tD))) = true := sh_lm (fun _ => rfl) dep_tD
    refine ws_cut (fun ρ' B8 => ρ' = [some (.scr ns), some penF, some (.int (0 + i)), some (.lst (L.map tD)), some (t6 A), some (.lst (M.map tD)), some (.lst (L.map (plT T))), some (.lst (M.map (plT T))), some (t6 F), o9, o10] ∧ B4 = B8) ?_ ?_
    · refine ws_if <| wt_test <| we_op <| we_lc_toldL (E1 := E0) (f := tD) (g := fun y => tD (im6 F y)) <| we_var rfl ⟨L, rfl, hsL, fun y hy k' hk' => ren F sF y hy hk' (we_var rfl ⟨rfl, rfl⟩) (we_var rfl ⟨rfl, rfl⟩), ?_⟩
      have e1 : L.map (fun y => tD (im6 F y)) = M.map tD := by rw [eF, List.map_map]; rfl
      rw [e1]
      refine we_var rfl <| ro_neD (okD _) (okD _) (shD _) (shD _) ?_
      rw [eqv_tDs, decide_eq_true rfl]
      exact ⟨_, rfl, (fun h => nomatch h), fun _ => ws_next ⟨rfl, rfl⟩⟩
    rintro _ _ ⟨rfl, rfl⟩
    refine ws_cut (fun ρ' B8 => ρ' = [some (.scr ns), some penF, some (.int (0 + i)), some (.lst (L.map tD)), some (t6 A), some (.lst (M.map tD)), some (.lst (L.map (plT T))), some (.lst (M.map (plT T))), some (t6 F), o9, o10] ∧ B4 = B8) ?_ ?_
    · refine ws_if <| wt_test <| we_op <| we_call <| wa_cons <| we_tupleL <| wa_cons <| we_var rfl <| wa_nil ⟨_, rfl, wa_nil ⟨true, _, rfl, .inl ⟨L, rfl, szL, fun p hp lp => we_call <| wa_cons <| we_var rfl <| wa_nil ⟨false, _, rfl, .inl ⟨M, rfl, szM, fun q hq lq => ro_neD (ok_kD p) (ok_kD q) (sh_kD p) (sh_kD q) ?_⟩⟩⟩⟩⟩
      rw [eqv_kD, decide_eq_true ((key_alike hp hq).mpr hal)]
      exact ⟨_, rfl, (fun h => nomatch h), fun _ => ws_next ⟨rfl, rfl⟩⟩
    rintro _ _ ⟨rfl, rfl⟩
    refine ws_cut (fun ρ' B8 => ρ' = [some (.scr ns), some penF, some (.int (0 + i)), some (.lst (L.map tD)), some (t6 A), some (.lst (M.map tD)), some (.lst (L.map (plT T))), some (.lst (M.map (plT T))), some (t6 F), o9, o10] ∧ B4 = B8) ?_ ?_
    · have rowL : ∀ (X : List T3) (y : T3), y ∈ X → True := fun _ _ _ => trivial
      refine ws_if <| wt_or <| wt_test <| we_op <| we_lc_toldL (E1 := E0) (f := plT T) (g := tD) <| we_var rfl ⟨L, rfl, hsL, fun y hy k' hk' => we_call <| wa_cons <| we_var rfl <| wa_nil ⟨_, rfl, .inl ⟨_, _, _, rfl, hk'⟩⟩, we_var rfl <| ro_neD (okD _) (okD _) (shD _) (shD _) ?_⟩
      rw [eqv_tDs, decide_eq_true rfl]
      refine ⟨_, rfl, (fun h => nomatch h), fun _ => ?_⟩
      refine wt_test <| we_op <| we_lc_toldL (E1 := E0) (f := plT T) (g := tD) <| we_var rfl ⟨M, rfl, hsM, fun y hy k' hk' => we_call <| wa_cons <| we_var rfl <| wa_nil ⟨_, rfl, .inl ⟨_, _, _, rfl, hk'⟩⟩, we_var rfl <| ro_neD (okD _) (okD _) (shD _) (shD _) ?_⟩
      rw [eqv_tDs, decide_eq_true rfl]
      exact ⟨_, rfl, (fun h => nomatch h), fun _ => ws_next ⟨rfl, rfl⟩⟩
    rintro _ _ ⟨rfl, rfl⟩
    refine ws_if <| wt_not <| wt_val <| we_call <| wa_cons <| we_var rfl <| wa_cons <| we_slL <| we_var rfl ⟨_, rfl, wo_no <| wo_part <| we_int ⟨_, rfl, ?_⟩⟩
    rw [cut3, ← List.map_take]
    exact wa_nil ⟨L.take 3, rfl, by rw [List.length_take]; omega, by rw [List.length_take]; omega, by omega, fun B9 hB9 => ⟨_, rfl, (fun h => nomatch h), fun _ => ws_next ⟨⟨_, _, _, _, _, _, _, _, _, rfl⟩, by push_cast; omega⟩⟩⟩
  rintro _ B1 ⟨⟨o2, o3, o4, o5, o6, o7, o8, o9, o10, rfl⟩, hB1⟩
  exact ws_ret (we_bl (hk _))
end
end AW

namespace AW
open PySem PySem.Spec PyProof.Rows L2
/-- the law, called as the statement calls it -/
theorem law_at {l : PySem.W.OpenLaw} {w : World} {K : PySem.W.Frag} {mg : Str → Option Value} {fa : Addr} {h : Heap} (T : Tx K mg) (ea : T.a_law = fa) (KX : K.In h) (ht_l_refused : h.get? T.pt_l_refused = some (PySem.W.tabObj #[])) (hN : ((tabs1 T).map Prod.fst).Nodup) :
    LamX.LawAtS l w K (L2.CX l.prog w) 17 63 "_law_script" mg fa h := by
  subst ea
  letI : Tbs := ⟨tabs1 T⟩
  refine ⟨T.d_law, [(T.cc_l_refused, T.pt_l_refused)], spLaw K, fun p hp => ?_, fun p hp => ?_, fun p hp => ?_, fun s u => ?_, fun H a ns hl _ hH hS => ?_, fun base KB hm hb => ?_⟩
  · simp only [List.mem_cons, List.not_mem_nil, or_false] at hp
    rcases hp with rfl
    · exact ht_l_refused
  · simp only [List.mem_cons, List.not_mem_nil, or_false] at hp
    rcases hp with rfl
    · exact T.n_l_refused
  · simp only [List.mem_cons, List.not_mem_nil, or_false] at hp
    rcases hp with rfl
    · exact PySem.W.codeHd_of_K KX T.h_l_refused
  · obtain ⟨oc, od, kV, doc, pm, an, cdv, ct, osl, e, lk, hcd⟩ := T.F_law.ex
    rw [e]
    exact BindsTo.of_eq rfl
  · refine ⟨a, ns, rfl, hS, hl, fun q hq => ?_, fun H' => rfl⟩
    have hq2 : q ∈ tabs1 T := hq
    unfold tabs1 at hq2
    simp only [List.mem_cons, List.not_mem_nil, or_false] at hq2
    rcases hq2 with rfl
    · exact LamX.TabS.nil (hH (T.cc_l_refused, T.pt_l_refused) (by simp))
  · exact ((okD_law T (TB_l_refused := hb (T.cc_l_refused, T.pt_l_refused) (by simp)) (hT := rfl) (hN := hN)).mono (by decide)).imp (spLaw_imp fun ns k hl hk => ⟨ns, rfl, hl, rfl, hk⟩)
end AW
open PySem PySem.W PyProof.Rows in
set_option maxRecDepth 100000 in
set_option maxHeartbeats 0 in
theorem PySem.Challenge.cw_areawalks_k50_whole_lists_are_carried_holds : PySem.Challenge.rw_areawalks_k50_whole_lists_are_carried.Holds := by
  w_on; o_law; k_head; (case hw => w_witness2)
  k_fill
  refine LamX.walk_ofTs (l := PySem.Challenge.rw_areawalks_k50_whole_lists_are_carried) (n := 63) (k := 17) (x := "_law_script") (CX := fun w => L2.CX (PySem.Challenge.rw_areawalks_k50_whole_lists_are_carried).prog w) rfl (by decide) rfl ⟨rfl, by decide, by decide⟩ (fun w h Y => PySem.W.km_in_of Y) ?F ?G
  case G =>
    intro w H s e s' h
    obtain ⟨_, _, _, _, _, _, _, _, _, _, _, _, z⟩ := h
    exact z.elim
  case F =>
    intro w mg fa h Y KX G hmg
    have ht := PySem.W.km_tabs_of Y
    refine' AW.tx_mk (pt_l_refused := 524) KX G hmg ?g__wall ?l__wall ?c__wall ?k__wall ?g_is_integer ?l_is_integer ?c_is_integer ?k_is_integer ?g_check_integer ?l_check_integer ?c_check_integer ?k_check_integer ?g_check_place ?l_check_place ?c_check_place ?k_check_place ?g_check_places ?l_check_places ?c_check_places ?k_check_places ?g_bezout ?l_bezout ?c_bezout ?k_bezout ?g_image_figures ?l_image_figures ?c_image_figures ?k_image_figures ?g_image_by ?l_image_by ?c_image_by ?k_image_by ?g_source_over ?l_source_over ?c_source_over ?k_source_over ?g_check_onto ?l_check_onto ?c_check_onto ?k_check_onto ?g_same_names ?l_same_names ?c_same_names ?k_same_names ?g_list_key ?l_list_key ?c_list_key ?k_list_key ?g_alike ?l_alike ?c_alike ?k_alike ?g_lot_key ?l_lot_key ?c_lot_key ?k_lot_key ?g_alike_lots ?l_alike_lots ?c_alike_lots ?k_alike_lots ?g_check_both ?l_check_both ?c_check_both ?k_check_both ?g_renaming_between ?l_renaming_between ?c_renaming_between ?k_renaming_between ?g_lot_form ?l_lot_form ?c_lot_form ?k_lot_form ?g_orders ?l_orders ?c_orders ?k_orders ?g_list_form ?l_list_form ?c_list_form ?k_list_form ?g_level_renamings ?l_level_renamings ?c_level_renamings ?k_level_renamings ?g_mirrored_pair ?l_mirrored_pair ?c_mirrored_pair ?k_mirrored_pair ?g_settled ?l_settled ?c_settled ?k_settled ?g_view_times ?l_view_times ?c_view_times ?k_view_times ?g_l_begin ?l_l_begin ?c_l_begin ?k_l_begin ?g_l_draw ?l_l_draw ?c_l_draw ?k_l_draw ?g_l_pick ?l_l_pick ?c_l_pick ?k_l_pick ?g_l_small ?l_l_small ?c_l_small ?k_l_small ?g_l_join ?l_l_join ?c_l_join ?k_l_join ?g_l_times ?l_l_times ?c_l_times ?k_l_times ?g_l_place ?l_l_place ?c_l_place ?k_l_place ?g_l_whole ?l_l_whole ?c_l_whole ?k_l_whole ?g_l_row ?l_l_row ?c_l_row ?k_l_row ?g_l_twist ?l_l_twist ?c_l_twist ?k_l_twist ?g_l_renamed ?l_l_renamed ?c_l_renamed ?k_l_renamed ?g_l_onto ?l_l_onto ?c_l_onto ?k_l_onto ?g_l_six ?l_l_six ?c_l_six ?k_l_six ?g_l_mid ?l_l_mid ?c_l_mid ?k_l_mid ?g_l_list ?l_l_list ?c_l_list ?k_l_list ?g_l_how ?l_l_how ?c_l_how ?k_l_how ?g_l_refused ?l_l_refused ?c_l_refused ?h_l_refused ?n_l_refused ?k_l_refused ?g_law ?l_law ?c_law ?k_law ?g_C_WalkError ?sa_WalkError ?ex_WalkError ?ty_WalkError ?kc_WalkError ?ga_WalkError ?gg_WalkError ?hd_WalkError ?ic_WalkError ?x_WalkError ?g_C_BadNumber ?m_BadNumber_init ?i_BadNumber_init ?l_BadNumber_init ?c_BadNumber_init ?k_BadNumber_init ?sa_BadNumber ?ex_BadNumber ?ty_BadNumber ?kc_BadNumber ?ga_BadNumber ?gg_BadNumber ?hd_BadNumber ?ic_BadNumber ?x_BadNumber ?na_BadNumber_value ?g_C_BadPlace ?m_BadPlace_init ?i_BadPlace_init ?l_BadPlace_init ?c_BadPlace_init ?k_BadPlace_init ?sa_BadPlace ?ex_BadPlace ?ty_BadPlace ?kc_BadPlace ?ga_BadPlace ?gg_BadPlace ?hd_BadPlace ?ic_BadPlace ?x_BadPlace ?na_BadPlace_value ?g_C_Uneven ?m_Uneven_init ?i_Uneven_init ?l_Uneven_init ?c_Uneven_init ?k_Uneven_init ?sa_Uneven ?ex_Uneven ?ty_Uneven ?kc_Uneven ?ga_Uneven ?gg_Uneven ?hd_Uneven ?ic_Uneven ?x_Uneven ?na_Uneven_first ?na_Uneven_second ?g_C_NotOnto ?m_NotOnto_init ?i_NotOnto_init ?l_NotOnto_init ?c_NotOnto_init ?k_NotOnto_init ?sa_NotOnto ?ex_NotOnto ?ty_NotOnto ?kc_NotOnto ?ga_NotOnto ?gg_NotOnto ?hd_NotOnto ?ic_NotOnto ?x_NotOnto ?na_NotOnto_number ?g_C_Place ?pg_Place ?hd_Place ?po_Place ?sa_Place ?ca_Place ?cm_Place ?na_Place_x ?na_Place_y ?na_Place_area ?m_Place_init ?i_Place_init ?l_Place_init ?c_Place_init ?k_Place_init ?mk_Place ?kc_Place ?m_Place_eq ?i_Place_eq ?l_Place_eq ?c_Place_eq ?k_Place_eq ?ne_Place ?m_Place_mul ?i_Place_mul ?l_Place_mul ?c_Place_mul ?k_Place_mul ?sf_Place_Mult ?ro_Place_Mult ?m_Place_invert ?i_Place_invert ?l_Place_invert ?c_Place_invert ?k_Place_invert ?m_Place_power ?i_Place_power ?l_Place_power ?c_Place_power ?k_Place_power ?m_Place_is_home ?i_Place_is_home ?l_Place_is_home ?c_Place_is_home ?k_Place_is_home ?m_Place_lifted ?i_Place_lifted ?l_Place_lifted ?c_Place_lifted ?k_Place_lifted ?m_Place_twist ?i_Place_twist ?l_Place_twist ?c_Place_twist ?k_Place_twist ?g_C_Renaming ?pg_Renaming ?hd_Renaming ?po_Renaming ?sa_Renaming ?ca_Renaming ?cm_Renaming ?na_Renaming_east ?na_Renaming_north ?m_Renaming_init ?i_Renaming_init ?l_Renaming_init ?c_Renaming_init ?k_Renaming_init ?mk_Renaming ?kc_Renaming ?m_Renaming_eq ?i_Renaming_eq ?l_Renaming_eq ?c_Renaming_eq ?k_Renaming_eq ?ne_Renaming ?m_Renaming_call ?i_Renaming_call ?l_Renaming_call ?c_Renaming_call ?k_Renaming_call ?m_Renaming_mul ?i_Renaming_mul ?l_Renaming_mul ?c_Renaming_mul ?k_Renaming_mul ?sf_Renaming_Mult ?ro_Renaming_Mult ?m_Renaming_invert ?i_Renaming_invert ?l_Renaming_invert ?c_Renaming_invert ?k_Renaming_invert ?m_Renaming_factor ?i_Renaming_factor ?l_Renaming_factor ?c_Renaming_factor ?k_Renaming_factor ?m_Renaming_power ?i_Renaming_power ?l_Renaming_power ?c_Renaming_power ?k_Renaming_power ?m_Renaming_order ?i_Renaming_order ?l_Renaming_order ?c_Renaming_order ?k_Renaming_order ?m_Renaming_index ?i_Renaming_index ?l_Renaming_index ?c_Renaming_index ?k_Renaming_index ?m_Renaming_keeps_steps ?i_Renaming_keeps_steps ?l_Renaming_keeps_steps ?c_Renaming_keeps_steps ?k_Renaming_keeps_steps ?cn ?ct ?io_Place_int ?io_Place_bool ?is_NoneType_Place ?sb_NoneType_Place ?is_bool_Place ?sb_bool_Place ?is_int_Place ?sb_int_Place ?is_str_Place ?sb_str_Place ?is_list_Place ?sb_list_Place ?is_tuple_Place ?sb_tuple_Place ?is_dict_Place ?sb_dict_Place ?ip_Place_Renaming ?sp_Place_Renaming ?io_Renaming_int ?io_Renaming_bool ?is_NoneType_Renaming ?sb_NoneType_Renaming ?is_bool_Renaming ?sb_bool_Renaming ?is_int_Renaming ?sb_int_Renaming ?is_str_Renaming ?sb_str_Renaming ?is_list_Renaming ?sb_list_Renaming ?is_tuple_Renaming ?sb_tuple_Renaming ?is_dict_Renaming ?sb_dict_Renaming ?ip_Renaming_Place ?sp_Renaming_Place ?em_BadNumber_BadPlace ?em_BadPlace_BadPlace ?em_NotOnto_BadPlace ?em_Uneven_BadPlace ?em_BadNumber_Uneven ?em_BadPlace_Uneven ?em_NotOnto_Uneven ?em_Uneven_Uneven ?n_NotImplemented ?n_abs ?n_all ?n_bool ?n_int ?n_isinstance ?n_len ?n_list ?n_range ?n_tuple ?n_zip ?gc_FINITE_ORDERS ?lc_FINITE_ORDERS ?vc_FINITE_ORDERS ?gc_MOST_TIMES ?kk
    (case g__wall => k_is)
    (case l__wall => k_is)
    (case c__wall => k_is)
    (case k__wall => k_is)
    (case g_is_integer => k_is)
    (case l_is_integer => k_is)
    (case c_is_integer => k_is)
    (case k_is_integer => k_is)
    (case g_check_integer => k_is)
    (case l_check_integer => k_is)
    (case c_check_integer => k_is)
    (case k_check_integer => k_is)
    (case g_check_place => k_is)
    (case l_check_place => k_is)
    (case c_check_place => k_is)
    (case k_check_place => k_is)
    (case g_check_places => k_is)
    (case l_check_places => k_is)
    (case c_check_places => k_is)
    (case k_check_places => k_is)
    (case g_bezout => k_is)
    (case l_bezout => k_is)
    (case c_bezout => k_is)
    (case k_bezout => k_is)
    (case g_image_figures => k_is)
    (case l_image_figures => k_is)
    (case c_image_figures => k_is)
    (case k_image_figures => k_is)
    (case g_image_by => k_is)
    (case l_image_by => k_is)
    (case c_image_by => k_is)
    (case k_image_by => k_is)
    (case g_source_over => k_is)
    (case l_source_over => k_is)
    (case c_source_over => k_is)
    (case k_source_over => k_is)
    (case g_check_onto => k_is)
    (case l_check_onto => k_is)
    (case c_check_onto => k_is)
    (case k_check_onto => k_is)
    (case g_same_names => k_is)
    (case l_same_names => k_is)
    (case c_same_names => k_is)
    (case k_same_names => k_is)
    (case g_list_key => k_is)
    (case l_list_key => k_is)
    (case c_list_key => k_is)
    (case k_list_key => k_is)
    (case g_alike => k_is)
    (case l_alike => k_is)
    (case c_alike => k_is)
    (case k_alike => k_is)
    (case g_lot_key => k_is)
    (case l_lot_key => k_is)
    (case c_lot_key => k_is)
    (case k_lot_key => k_is)
    (case g_alike_lots => k_is)
    (case l_alike_lots => k_is)
    (case c_alike_lots => k_is)
    (case k_alike_lots => k_is)
    (case g_check_both => k_is)
    (case l_check_both => k_is)
    (case c_check_both => k_is)
    (case k_check_both => k_is)
    (case g_renaming_between => k_is)
    (case l_renaming_between => k_is)
    (case c_renaming_between => k_is)
    (case k_renaming_between => k_is)
    (case g_lot_form => k_is)
    (case l_lot_form => k_is)
    (case c_lot_form => k_is)
    (case k_lot_form => k_is)
    (case g_orders => k_is)
    (case l_orders => k_is)
    (case c_orders => k_is)
    (case k_orders => k_is)
    (case g_list_form => k_is)
    (case l_list_form => k_is)
    (case c_list_form => k_is)
    (case k_list_form => k_is)
    (case g_level_renamings => k_is)
    (case l_level_renamings => k_is)
    (case c_level_renamings => k_is)
    (case k_level_renamings => k_is)
    (case g_mirrored_pair => k_is)
    (case l_mirrored_pair => k_is)
    (case c_mirrored_pair => k_is)
    (case k_mirrored_pair => k_is)
    (case g_settled => k_is)
    (case l_settled => k_is)
    (case c_settled => k_is)
    (case k_settled => k_is)
    (case g_view_times => k_is)
    (case l_view_times => k_is)
    (case c_view_times => k_is)
    (case k_view_times => k_is)
    (case g_l_begin => k_is)
    (case l_l_begin => k_is)
    (case c_l_begin => k_is)
    (case k_l_begin => k_is)
    (case g_l_draw => k_is)
    (case l_l_draw => k_is)
    (case c_l_draw => k_is)
    (case k_l_draw => k_is)
    (case g_l_pick => k_is)
    (case l_l_pick => k_is)
    (case c_l_pick => k_is)
    (case k_l_pick => k_is)
    (case g_l_small => k_is)
    (case l_l_small => k_is)
    (case c_l_small => k_is)
    (case k_l_small => k_is)
    (case g_l_join => k_is)
    (case l_l_join => k_is)
    (case c_l_join => k_is)
    (case k_l_join => k_is)
    (case g_l_times => k_is)
    (case l_l_times => k_is)
    (case c_l_times => k_is)
    (case k_l_times => k_is)
    (case g_l_place => k_is)
    (case l_l_place => k_is)
    (case c_l_place => k_is)
    (case k_l_place => k_is)
    (case g_l_whole => k_is)
    (case l_l_whole => k_is)
    (case c_l_whole => k_is)
    (case k_l_whole => k_is)
    (case g_l_row => k_is)
    (case l_l_row => k_is)
    (case c_l_row => k_is)
    (case k_l_row => k_is)
    (case g_l_twist => k_is)
    (case l_l_twist => k_is)
    (case c_l_twist => k_is)
    (case k_l_twist => k_is)
    (case g_l_renamed => k_is)
    (case l_l_renamed => k_is)
    (case c_l_renamed => k_is)
    (case k_l_renamed => k_is)
    (case g_l_onto => k_is)
    (case l_l_onto => k_is)
    (case c_l_onto => k_is)
    (case k_l_onto => k_is)
    (case g_l_six => k_is)
    (case l_l_six => k_is)
    (case c_l_six => k_is)
    (case k_l_six => k_is)
    (case g_l_mid => k_is)
    (case l_l_mid => k_is)
    (case c_l_mid => k_is)
    (case k_l_mid => k_is)
    (case g_l_list => k_is)
    (case l_l_list => k_is)
    (case c_l_list => k_is)
    (case k_l_list => k_is)
    (case g_l_how => k_is)
    (case l_l_how => k_is)
    (case c_l_how => k_is)
    (case k_l_how => k_is)
    (case g_l_refused => k_is)
    (case l_l_refused => k_is)
    (case c_l_refused => k_is)
    (case h_l_refused => (first | k_is | exact rfl | kernel_rfl))
    (case n_l_refused => (first | k_is | exact rfl | kernel_rfl))
    (case k_l_refused => k_is)
    (case g_law => k_is)
    (case l_law => k_is)
    (case c_law => k_is)
    (case k_law => k_is)
    (case g_C_WalkError => k_is)
    (case sa_WalkError => k_is)
    (case ex_WalkError => k_is)
    (case ty_WalkError => k_is)
    (case kc_WalkError => k_is)
    (case ga_WalkError => k_is)
    (case gg_WalkError => k_is)
    (case hd_WalkError => k_is)
    (case ic_WalkError => k_is)
    (case x_WalkError => k_is)
    (case g_C_BadNumber => k_is)
    (case m_BadNumber_init => k_is)
    (case i_BadNumber_init => k_is)
    (case l_BadNumber_init => k_is)
    (case c_BadNumber_init => k_is)
    (case k_BadNumber_init => k_is)
    (case sa_BadNumber => k_is)
    (case ex_BadNumber => k_is)
    (case ty_BadNumber => k_is)
    (case kc_BadNumber => k_is)
    (case ga_BadNumber => k_is)
    (case gg_BadNumber => k_is)
    (case hd_BadNumber => k_is)
    (case ic_BadNumber => k_is)
    (case x_BadNumber => k_is)
    (case na_BadNumber_value => k_is)
    (case g_C_BadPlace => k_is)
    (case m_BadPlace_init => k_is)
    (case i_BadPlace_init => k_is)
    (case l_BadPlace_init => k_is)
    (case c_BadPlace_init => k_is)
    (case k_BadPlace_init => k_is)
    (case sa_BadPlace => k_is)
    (case ex_BadPlace => k_is)
    (case ty_BadPlace => k_is)
    (case kc_BadPlace => k_is)
    (case ga_BadPlace => k_is)
    (case gg_BadPlace => k_is)
    (case hd_BadPlace => k_is)
    (case ic_BadPlace => k_is)
    (case x_BadPlace => k_is)
    (case na_BadPlace_value => k_is)
    (case g_C_Uneven => k_is)
    (case m_Uneven_init => k_is)
    (case i_Uneven_init => k_is)
    (case l_Uneven_init => k_is)
    (case c_Uneven_init => k_is)
    (case k_Uneven_init => k_is)
    (case sa_Uneven => k_is)
    (case ex_Uneven => k_is)
    (case ty_Uneven => k_is)
    (case kc_Uneven => k_is)
    (case ga_Uneven => k_is)
    (case gg_Uneven => k_is)
    (case hd_Uneven => k_is)
    (case ic_Uneven => k_is)
    (case x_Uneven => k_is)
    (case na_Uneven_first => k_is)
    (case na_Uneven_second => k_is)
    (case g_C_NotOnto => k_is)
    (case m_NotOnto_init => k_is)
    (case i_NotOnto_init => k_is)
    (case l_NotOnto_init => k_is)
    (case c_NotOnto_init => k_is)
    (case k_NotOnto_init => k_is)
    (case sa_NotOnto => k_is)
    (case ex_NotOnto => k_is)
    (case ty_NotOnto => k_is)
    (case kc_NotOnto => k_is)
    (case ga_NotOnto => k_is)
    (case gg_NotOnto => k_is)
    (case hd_NotOnto => k_is)
    (case ic_NotOnto => k_is)
    (case x_NotOnto => k_is)
    (case na_NotOnto_number => k_is)
    (case g_C_Place => k_is)
    (case pg_Place => k_is)
    (case hd_Place => k_is)
    (case po_Place => k_is)
    (case sa_Place => k_is)
    (case ca_Place => k_is)
    (case cm_Place => k_is)
    (case na_Place_x => k_is)
    (case na_Place_y => k_is)
    (case na_Place_area => k_is)
    (case m_Place_init => k_is)
    (case i_Place_init => k_is)
    (case l_Place_init => k_is)
    (case c_Place_init => k_is)
    (case k_Place_init => k_is)
    (case mk_Place => k_is)
    (case kc_Place => k_is)
    (case m_Place_eq => k_is)
    (case i_Place_eq => k_is)
    (case l_Place_eq => k_is)
    (case c_Place_eq => k_is)
    (case k_Place_eq => k_is)
    (case ne_Place => k_is)
    (case m_Place_mul => k_is)
    (case i_Place_mul => k_is)
    (case l_Place_mul => k_is)
    (case c_Place_mul => k_is)
    (case k_Place_mul => k_is)
    (case sf_Place_Mult => k_is)
    (case ro_Place_Mult => k_is)
    (case m_Place_invert => k_is)
    (case i_Place_invert => k_is)
    (case l_Place_invert => k_is)
    (case c_Place_invert => k_is)
    (case k_Place_invert => k_is)
    (case m_Place_power => k_is)
    (case i_Place_power => k_is)
    (case l_Place_power => k_is)
    (case c_Place_power => k_is)
    (case k_Place_power => k_is)
    (case m_Place_is_home => k_is)
    (case i_Place_is_home => k_is)
    (case l_Place_is_home => k_is)
    (case c_Place_is_home => k_is)
    (case k_Place_is_home => k_is)
    (case m_Place_lifted => k_is)
    (case i_Place_lifted => k_is)
    (case l_Place_lifted => k_is)
    (case c_Place_lifted => k_is)
    (case k_Place_lifted => k_is)
    (case m_Place_twist => k_is)
    (case i_Place_twist => k_is)
    (case l_Place_twist => k_is)
    (case c_Place_twist => k_is)
    (case k_Place_twist => k_is)
    (case g_C_Renaming => k_is)
    (case pg_Renaming => k_is)
    (case hd_Renaming => k_is)
    (case po_Renaming => k_is)
    (case sa_Renaming => k_is)
    (case ca_Renaming => k_is)
    (case cm_Renaming => k_is)
    (case na_Renaming_east => k_is)
    (case na_Renaming_north => k_is)
    (case m_Renaming_init => k_is)
    (case i_Renaming_init => k_is)
    (case l_Renaming_init => k_is)
    (case c_Renaming_init => k_is)
    (case k_Renaming_init => k_is)
    (case mk_Renaming => k_is)
    (case kc_Renaming => k_is)
    (case m_Renaming_eq => k_is)
    (case i_Renaming_eq => k_is)
    (case l_Renaming_eq => k_is)
    (case c_Renaming_eq => k_is)
    (case k_Renaming_eq => k_is)
    (case ne_Renaming => k_is)
    (case m_Renaming_call => k_is)
    (case i_Renaming_call => k_is)
    (case l_Renaming_call => k_is)
    (case c_Renaming_call => k_is)
    (case k_Renaming_call => k_is)
    (case m_Renaming_mul => k_is)
    (case i_Renaming_mul => k_is)
    (case l_Renaming_mul => k_is)
    (case c_Renaming_mul => k_is)
    (case k_Renaming_mul => k_is)
    (case sf_Renaming_Mult => k_is)
    (case ro_Renaming_Mult => k_is)
    (case m_Renaming_invert => k_is)
    (case i_Renaming_invert => k_is)
    (case l_Renaming_invert => k_is)
    (case c_Renaming_invert => k_is)
    (case k_Renaming_invert => k_is)
    (case m_Renaming_factor => k_is)
    (case i_Renaming_factor => k_is)
    (case l_Renaming_factor => k_is)
    (case c_Renaming_factor => k_is)
    (case k_Renaming_factor => k_is)
    (case m_Renaming_power => k_is)
    (case i_Renaming_power => k_is)
    (case l_Renaming_power => k_is)
    (case c_Renaming_power => k_is)
    (case k_Renaming_power => k_is)
    (case m_Renaming_order => k_is)
    (case i_Renaming_order => k_is)
    (case l_Renaming_order => k_is)
    (case c_Renaming_order => k_is)
    (case k_Renaming_order => k_is)
    (case m_Renaming_index => k_is)
    (case i_Renaming_index => k_is)
    (case l_Renaming_index => k_is)
    (case c_Renaming_index => k_is)
    (case k_Renaming_index => k_is)
    (case m_Renaming_keeps_steps => k_is)
    (case i_Renaming_keeps_steps => k_is)
    (case l_Renaming_keeps_steps => k_is)
    (case c_Renaming_keeps_steps => k_is)
    (case k_Renaming_keeps_steps => k_is)
    (case cn => k_is)
    (case ct => k_is)
    (case io_Place_int => kit_is)
    (case io_Place_bool => kit_is)
    (case is_NoneType_Place => kit_is)
    (case sb_NoneType_Place => k_is)
    (case is_bool_Place => kit_is)
    (case sb_bool_Place => k_is)
    (case is_int_Place => kit_is)
    (case sb_int_Place => k_is)
    (case is_str_Place => kit_is)
    (case sb_str_Place => k_is)
    (case is_list_Place => kit_is)
    (case sb_list_Place => k_is)
    (case is_tuple_Place => kit_is)
    (case sb_tuple_Place => k_is)
    (case is_dict_Place => kit_is)
    (case sb_dict_Place => k_is)
    (case ip_Place_Renaming => kit_is)
    (case sp_Place_Renaming => k_is)
    (case io_Renaming_int => kit_is)
    (case io_Renaming_bool => kit_is)
    (case is_NoneType_Renaming => kit_is)
    (case sb_NoneType_Renaming => k_is)
    (case is_bool_Renaming => kit_is)
    (case sb_bool_Renaming => k_is)
    (case is_int_Renaming => kit_is)
    (case sb_int_Renaming => k_is)
    (case is_str_Renaming => kit_is)
    (case sb_str_Renaming => k_is)
    (case is_list_Renaming => kit_is)
    (case sb_list_Renaming => k_is)
    (case is_tuple_Renaming => kit_is)
    (case sb_tuple_Renaming => k_is)
    (case is_dict_Renaming => kit_is)
    (case sb_dict_Renaming => k_is)
    (case ip_Renaming_Place => kit_is)
    (case sp_Renaming_Place => k_is)
    (case em_BadNumber_BadPlace => kts_exm)
    (case em_BadPlace_BadPlace => kts_exm)
    (case em_NotOnto_BadPlace => kts_exm)
    (case em_Uneven_BadPlace => kts_exm)
    (case em_BadNumber_Uneven => kts_exm)
    (case em_BadPlace_Uneven => kts_exm)
    (case em_NotOnto_Uneven => kts_exm)
    (case em_Uneven_Uneven => kts_exm)
    (case n_NotImplemented => k_is)
    (case n_abs => k_is)
    (case n_all => k_is)
    (case n_bool => k_is)
    (case n_int => k_is)
    (case n_isinstance => k_is)
    (case n_len => k_is)
    (case n_list => k_is)
    (case n_range => k_is)
    (case n_tuple => k_is)
    (case n_zip => k_is)
    (case gc_FINITE_ORDERS => k_is)
    (case lc_FINITE_ORDERS => k_is)
    (case vc_FINITE_ORDERS => rfl)
    (case gc_MOST_TIMES => k_is)
    (case kk =>
      intro T ea ep_l_refused
      exact AW.law_at T ea KX (by rw [ep_l_refused]; exact ht 524 (by decide)) (by unfold AW.tabs1; simp only [List.map_cons, List.map_nil, ep_l_refused]; decide))
